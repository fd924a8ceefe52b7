"""Scripts and lists as texts."""

from cursorscripts.commands import holds_scripts, need_script
from cursorscripts.errors import InvalidList, Unreadable
from cursorscripts.facts import TREE, WAY, facts_of
from cursorscripts.lists import check_list
from cursorscripts.meeting import first_meeting
from cursorscripts.reading import ScriptReader, rewriting_read


def _command_pieces(command):
    """Strings, and scripts whose texts stand between them."""
    if isinstance(command, str):
        return [command]
    if not holds_scripts(command):
        return [command[0] + " " + command[1]]
    pieces = [command[0]]
    for script in command[1:]:
        pieces.extend([" [", script, "]"])
    return pieces


def _script_pieces(steps):
    pieces = []
    for command in steps:
        pieces.extend([" "] + _command_pieces(command))
    return pieces[1:]


def script_text(steps):
    """The text of a script."""
    need_script(steps)
    texts, waiting = [], [steps]
    while waiting:
        piece = waiting.pop()
        if isinstance(piece, str):
            texts.append(piece)
        else:
            waiting.extend(_script_pieces(piece)[::-1])
    return "".join(texts)


def read_script(text):
    """The script that a string is the text of."""
    if not isinstance(text, str):
        raise Unreadable(0)
    return ScriptReader(text).read_all()


def _label_text(label):
    if isinstance(label, int):
        return str(label)
    return label if isinstance(label, str) else "?" + ",".join(label)


def _tree_pieces(tree):
    """Strings, and tuples of one string, "tree" or "way", and of what stands between them."""
    if isinstance(tree, int):
        return [str(tree)]
    if tree == () or tree == TREE:
        return ["*" if tree else "."]
    label, left, right = tree
    return ["(" + _label_text(label) + " ", ("tree", left), " ", ("tree", right), ")"]


def _way_pieces(way):
    if isinstance(way, int):
        return [str(way)]
    if way == () or way == WAY:
        return ["*" if way else "^"]
    side, label, other, rest = way
    return ["{" + side + " " + _label_text(label) + " ", ("tree", other), " ", ("way", rest), "}"]


def _state_text(state):
    """The text of a pattern or template."""
    focus, way, hand = state
    texts, waiting = [], [("tree", hand), " | ", ("way", way), " | ", ("tree", focus)]
    while waiting:
        piece = waiting.pop()
        if isinstance(piece, str):
            texts.append(piece)
        elif piece[0] == "tree":
            waiting.extend(_tree_pieces(piece[1])[::-1])
        else:
            waiting.extend(_way_pieces(piece[1])[::-1])
    return "".join(texts)


def list_text(rewritings):
    """The text of a list."""
    problem = check_list(rewritings)
    if problem is not None:
        raise InvalidList(problem)
    return "\n".join([_state_text(pattern) + " -> " + _state_text(template) for pattern, template in rewritings])


def read_list(text):
    """The list that a string is the text of."""
    if not isinstance(text, str):
        raise Unreadable(0)
    lines = text.split("\n") if text != "" else []
    found = []
    for line in lines:
        rewriting = rewriting_read(line)
        if rewriting is None:
            break
        found.append(rewriting)
    meeting = first_meeting([facts_of(pattern) for pattern, _ in found])
    if meeting is not None:
        raise Unreadable(meeting[0] + 1)
    if len(found) < len(lines):
        raise Unreadable(len(found) + 1)
    return found
