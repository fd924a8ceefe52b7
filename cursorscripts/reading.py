"""Texts read sign by sign."""

from cursorscripts.commands import LABEL_WORDS, WORDS
from cursorscripts.errors import Unreadable
from cursorscripts.facts import TREE, WAY, rebuilt
from cursorscripts.rewritings import check_rewriting
from cursorscripts.trees import SIDES

# How many scripts stand behind a word.
SCRIPT_WORDS = {"else": 2, "not": 1}
# No pattern has so many unknowns that a number needs more digits.
MOST_DIGITS = 9


def _run_of_letters(text, at):
    """The letters of a text from a place on."""
    end = at
    while "a" <= text[end:end + 1] <= "z":
        end += 1
    return text[at:end]


def _same_beginning(one, other):
    """The number of signs with which two strings both begin."""
    same = 0
    while same < min(len(one), len(other)) and one[same] == other[same]:
        same += 1
    return same


class ScriptReader:
    """Reads the text of a script; with what is ahead of where it is, the text of some script begins."""

    def __init__(self, text):
        self.text = text
        self.at = 0
        self.commands = []
        # For each command within whose brackets this is: the commands ahead of it, its word, its scripts so far.
        self.begun = []

    def _sign(self):
        return self.text[self.at:self.at + 1]

    def _need(self, wanted):
        for sign in wanted:
            if self._sign() != sign:
                raise Unreadable(self.at)
            self.at += 1

    def _read_word(self):
        word = _run_of_letters(self.text, self.at)
        if word not in WORDS and word not in LABEL_WORDS and word not in SCRIPT_WORDS:
            words = list(WORDS) + list(LABEL_WORDS) + list(SCRIPT_WORDS)
            raise Unreadable(self.at + max([_same_beginning(word, other) for other in words]))
        self.at += len(word)
        return word

    def _read_label(self):
        label = _run_of_letters(self.text, self.at)
        if label == "":
            raise Unreadable(self.at)
        self.at += len(label)
        return label

    def _begin(self, commands, word, scripts):
        """Begins a script within brackets; whether a command has to come next."""
        self._need(" [")
        self.begun.append((commands, word, scripts))
        self.commands = []
        return self._sign() != "]"

    def _end(self):
        """Ends a script within brackets; whether a command has to come next."""
        self._need("]")
        commands, word, scripts = self.begun.pop()
        scripts = scripts + (tuple(self.commands),)
        if len(scripts) < SCRIPT_WORDS[word]:
            return self._begin(commands, word, scripts)
        self.commands = commands
        self.commands.append((word,) + scripts)
        return False

    def _read_command(self):
        """Reads a command, or one up to its first bracket; whether a command has to come next."""
        word = self._read_word()
        if word in SCRIPT_WORDS:
            return self._begin(self.commands, word, ())
        if word in LABEL_WORDS:
            self._need(" ")
            self.commands.append((word, self._read_label()))
        else:
            self.commands.append(word)
        return False

    def _go_on(self):
        """Reads what may stand behind a command; whether a command has to come next."""
        if self.begun and self._sign() == "]":
            return self._end()
        self._need(" ")
        return True

    def read_all(self):
        """The script that the text is the text of; raises Unreadable."""
        wants_command = self.text != ""
        while wants_command or self.begun or self.at < len(self.text):
            wants_command = self._read_command() if wants_command else self._go_on()
        return tuple(self.commands)


class TermReader:
    """Reads the text of a part of a pattern or template.

    The kinds of what it reads are "tree", "way" and "label"; other strings stand for themselves.
    """

    def __init__(self, text):
        self.text = text
        self.at = 0
        # The parts, each behind what it is a part of: numbers of things that have no parts, and nodes without them.
        self.order = []
        self.things = []

    def _sign(self):
        return self.text[self.at:self.at + 1]

    def _take(self, wanted):
        """Whether a string stands here; if so, it is behind it then."""
        if not self.text.startswith(wanted, self.at):
            return False
        self.at += len(wanted)
        return True

    def _add(self, thing):
        self.order.append(len(self.things))
        self.things.append(thing)
        return []

    def _add_node(self, head, kinds):
        self.order.append(head + (None, None, None))
        first, second, third = kinds
        return [first, " ", second, " ", third]

    def _read_number(self):
        begin = self.at
        while "0" <= self._sign() <= "9":
            self.at += 1
        digits = self.text[begin:self.at]
        if digits == "" or len(digits) > MOST_DIGITS or str(int(digits)) != digits:
            return None
        return self._add(int(digits))

    def _letters(self):
        found = _run_of_letters(self.text, self.at)
        self.at += len(found)
        return found

    def _read_barred(self):
        label = self._letters()
        if label == "":
            return self._add(())
        barred = [label]
        while self._take(","):
            barred.append(self._letters())
        return self._add(tuple(barred))

    def _read_label(self):
        if self._take("?"):
            return self._read_barred()
        label = self._letters()
        return self._read_number() if label == "" else self._add(label)

    def _read_tree(self):
        if self._take("."):
            return self._add(())
        if self._take("*"):
            return self._add(TREE)
        if self._take("("):
            return self._add_node((), ("label", "tree", "tree")) + [")"]
        return self._read_number()

    def _read_way(self):
        if self._take("^"):
            return self._add(())
        if self._take("*"):
            return self._add(WAY)
        for side in SIDES:
            if self._take("{" + side + " "):
                return self._add_node((side,), ("label", "tree", "way")) + ["}"]
        return self._read_number()

    def _read_one(self, wanted):
        """Reads what is wanted up to its parts: what is wanted then, None if it does not stand here."""
        if wanted == "label":
            return self._read_label()
        if wanted == "tree":
            return self._read_tree()
        if wanted == "way":
            return self._read_way()
        return [] if self._take(wanted) else None

    def read_all(self, kind):
        """The term of a kind that the text is the text of, None if there is none."""
        waiting = [kind]
        while waiting:
            more = self._read_one(waiting.pop())
            if more is None:
                return None
            waiting.extend(more[::-1])
        return rebuilt(self.order, self.things) if self.at == len(self.text) else None


def _state_read(text):
    """The pattern or template of which a string is the text, None if there is none."""
    texts = text.split(" | ")
    if len(texts) != 3:
        return None
    return tuple([TermReader(part).read_all(kind) for part, kind in zip(texts, ("tree", "way", "tree"))])


def rewriting_read(text):
    """The rewriting of which a string is the text, None if there is none."""
    texts = text.split(" -> ")
    if len(texts) != 2:
        return None
    rewriting = (_state_read(texts[0]), _state_read(texts[1]))
    return rewriting if check_rewriting(rewriting) is None else None
