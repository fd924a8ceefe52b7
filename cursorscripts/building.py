"""The script of one rule: it tests whether a state fits, and makes the rule's state of it."""

from cursorscripts.facts import ROOT, expanded, is_unknown, themselves
from cursorscripts.rules import folded
from cursorscripts.trees import other_side

# It stands in the nodes that are put around trees and taken away again, so any label will do.
LABEL = "a"


def _label_tests(label, facts):
    if isinstance(label, str):
        return [("is", label)]
    return [("isnot", barred) for barred in facts.get(label[0], ())]


def _tree_tests(tree, facts):
    """The commands that fail if the tree at the cursor is not as a term, and end where they began."""
    if is_unknown(tree):
        return []
    if tree == ():
        return ["empty"]
    tests = _label_tests(tree[0], facts)
    for side, child in (("left", tree[1]), ("right", tree[2])):
        found = _tree_tests(child, facts)
        if found:
            tests = tests + [side] + found + ["up"]
    return tests if tests else ["full"]


def _way_tests(way, facts):
    """The commands that fail if the way is not as a term, and end where it ends or is unknown."""
    tests = []
    while len(way) == 4:
        side, label, other, way = way
        tests.extend(["in" + side, "up"] + _label_tests(label, facts))
        found = _tree_tests(other, facts)
        if found:
            tests.extend([other_side(side)] + found + ["up"])
    return tests + ["top"] if way == () else tests


class Builder:
    """Makes commands that build a tree out of parts of another one.

    Both are children of one node, at which the cursor ends: the left one is kept, the
    right one is built. A path is a tuple of sides from this node.
    """

    def __init__(self, source, at):
        self.commands = []
        self.at = at
        self.held = None
        self.parts = []
        self._list_parts(source, ("left",))

    def _list_parts(self, tree, path):
        self.parts.append((tree, path))
        if len(tree) == 3:
            self._list_parts(tree[1], path + ("left",))
            self._list_parts(tree[2], path + ("right",))

    def _part(self, tree):
        """The first part of the kept tree that is equal to a tree, and its path; None if there is none."""
        for part, path in self.parts:
            if part == tree:
                return (part, path)
        return None

    def _node_with(self, label):
        for part, path in self.parts:
            if len(part) == 3 and part[0] == label:
                return (part, path)
        return None

    def go(self, path):
        """Moves the cursor."""
        same = 0
        while same < min(len(path), len(self.at)) and path[same] == self.at[same]:
            same += 1
        self.commands.extend(["up"] * (len(self.at) - same) + list(path[same:]))
        self.at = path

    def _paste_at(self, path, source):
        if self.held != source:
            self.go(source)
            self.commands.append("copy")
            self.held = source
        self.go(path)
        self.commands.append("paste")

    def _put_at(self, path, label, there):
        self.go(path)
        if there != ():
            self.commands.append("clear")
        self.commands.append(("put", label))

    def build(self, tree, path, there):
        """Builds a tree at a path where another one stands."""
        if tree == there:
            return
        if tree == ():
            self.go(path)
            self.commands.append("clear")
            return
        found = self._part(tree)
        if found is not None:
            self._paste_at(path, found[1])
            return
        label, left, right = tree
        if is_unknown(label):
            there, source = self._node_with(label)
            self._paste_at(path, source)
        else:
            self._put_at(path, label, there)
            there = (label, (), ())
        self.build(left, path + ("left",), there[1])
        self.build(right, path + ("right",), there[2])


def _gathering(state, facts):
    """The commands that test a state and put its tree and hand together, as children of the node at the cursor."""
    focus, way, hand = state
    tests = _tree_tests(focus, facts) + _way_tests(way, facts)
    return tests + [("wrapleft", LABEL), "right", "paste"] + _tree_tests(hand, facts) + ["up"]


def script_of_rule(rule):
    """A script that does what a rule does whose rewriting keeps the way."""
    facts, made = rule
    state = expanded(ROOT, facts, themselves(facts))
    source = (LABEL, folded(state)[0], state[2])
    tree, _, sides = folded(made)
    builder = Builder(source, ())
    builder.commands.append(("wrapleft", LABEL))
    builder.build((LABEL, tree, made[2]), ("right",), ())
    builder.go(())
    taking_apart = ["liftright", "right", "cut", "up", "liftleft"]
    return tuple(_gathering(state, facts) + builder.commands + taking_apart + sides)
