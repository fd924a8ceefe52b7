"""Point 15 word by word, another time than in the package: texts of scripts and lists, and what texts begin."""

import re

WORDS = ("left", "right", "up", "clear", "cut", "copy", "paste", "trade", "swap", "liftleft", "liftright", "rise", "top",
         "inner", "inleft", "inright", "empty", "full")
LABEL_WORDS = ("put", "set", "wrapleft", "wrapright", "is", "isnot")
LETTERS = "abcdefghijklmnopqrstuvwxyz"
SIGNS = "".join(chr(code) for code in range(32, 127)) + "\n"


def command_text(command):
    if isinstance(command, str):
        return command
    if command[0] in ("else", "not"):
        return command[0] + "".join(f" [{script_text(script)}]" for script in command[1:])
    return f"{command[0]} {command[1]}"


def script_text(steps):
    return " ".join(command_text(command) for command in steps)


# What may stand for each big letter; the rest are signs. SCRIPT, COMMAND, BEHIND it, LABEL and the REST of one.
GRAMMAR = {
    "S": ("", "CB"), "B": ("", " CB"), "L": tuple(letter + "R" for letter in LETTERS),
    "R": ("",) + tuple(letter + "R" for letter in LETTERS),
    "C": WORDS + tuple(f"{word} L" for word in LABEL_WORDS) + ("else [S] [S]", "not [S]"),
}


def opened(rests):
    """All that may stand where one of these may, each beginning with a sign or empty."""
    found, waiting = {}, list(rests)
    while waiting:
        rest = waiting.pop()
        if rest[:1] in GRAMMAR:
            waiting.extend(part + rest[1:] for part in GRAMMAR[rest[0]])
        else:
            found[rest] = True
    return found


def longest_beginning(text):
    """The length of the longest beginning of a text with which a script's text begins, and whether it is one."""
    rests = opened(["S"])
    for at, sign in enumerate(text):
        after = opened({rest[1:] for rest in rests if rest[:1] == sign})
        if not after:
            return (at, False)
        rests = after
    return (len(text), "" in rests)


def label_text(label):
    return label if isinstance(label, str) else "?" + ",".join(label) if isinstance(label, tuple) else str(label)


def tree_text(tree):
    if isinstance(tree, int):
        return str(tree)
    if len(tree) < 2:
        return "*" if tree else "."
    return f"({label_text(tree[0])} {tree_text(tree[1])} {tree_text(tree[2])})"


def way_text(way):
    if isinstance(way, int):
        return str(way)
    if len(way) < 2:
        return "*" if way else "^"
    return "{" + f"{way[0]} {label_text(way[1])} {tree_text(way[2])} {way_text(way[3])}" + "}"


def state_text(state):
    return f"{tree_text(state[0])} | {way_text(state[1])} | {tree_text(state[2])}"


def rewriting_text(rewriting):
    return f"{state_text(rewriting[0])} -> {state_text(rewriting[1])}"


TOKEN = re.compile(r"[a-z]+|[0-9]+|\?[a-z,]*|.", re.DOTALL)


class Tokens:
    def __init__(self, text):
        self.tokens = TOKEN.findall(text)[::-1]

    def take(self):
        return self.tokens.pop() if self.tokens else ""

    def need(self, wanted):
        if self.take() != wanted:
            raise ValueError(wanted)

    def label(self):
        token = self.take()
        if token.startswith("?"):
            return tuple(token[1:].split(",")) if len(token) > 1 else ()
        return int(token) if token.isdigit() else token

    def tree(self):
        token = self.take()
        if token != "(":
            return {".": (), "*": ("tree",)}[token] if token in ".*" and token else int(token)
        label = self.label()
        self.need(" ")
        left = self.tree()
        self.need(" ")
        right = self.tree()
        self.need(")")
        return (label, left, right)

    def way(self):
        token = self.take()
        if token != "{":
            return {"^": (), "*": ("way",)}[token] if token in "^*" and token else int(token)
        side = self.take()
        self.need(" ")
        label = self.label()
        self.need(" ")
        other = self.tree()
        self.need(" ")
        way = self.way()
        self.need("}")
        return (side, label, other, way)

    def state(self):
        focus = self.tree()
        for sign in " | ":
            self.need(sign)
        way = self.way()
        for sign in " | ":
            self.need(sign)
        return (focus, way, self.tree())


def rewriting_of(line):
    """The rewriting of which a line is the text, if there is any; None where this is sure not to be one."""
    tokens = Tokens(line)
    try:
        pattern = tokens.state()
        for sign in " -> ":
            tokens.need(sign)
        rewriting = (pattern, tokens.state())
        good = rewriting_text(rewriting) == line
    except (ValueError, TypeError):
        return None
    return rewriting if good else None
