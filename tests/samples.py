"""Things that several tests pass: small states in full, long ones, and wrong things."""

from cursorscripts.trees import SIDES

WRONG = [
    None, True, False, 0, 1, -1, 10 ** 99, "", "A", "aB", "a b", "a1", " ", "\n", "a\n", "-", "~", "[", "`", "{",
    [], ["a"], [()], ["a", [], []], ["a", (), ()], {}, {"a": ()}, {"left": "left"}, (None,), (1, 2), (True,),
    ("a",), ("a", ()), ("a", (), (), ()), ("", (), ()), ("A", (), ()), ("ab", (), []), ("a", None, ()),
    ("a", (), "a"), (("a", (), ()),), ("a", ("b", (), ()), ("c", (), 0)), (1, (), ()), (True, (), ()),
    ((), (), ()), (["a"], (), ()), ({"a": 1}, (), ()), ("left", "a", (), [], ()), ("left", "a", ()),
]


def nested(depth):
    """Tuples, lists and dicts that stand depth deep within one another."""
    things = []
    for wrap in (lambda x: (x,), lambda x: [x], lambda x: {"a": x}, lambda x: ("not", (x,)), lambda x: ("a", x, ()),
                 lambda x: ("else", (), (x,)), lambda x: ("left", "a", (), x)):
        thing = 5
        for _ in range(depth):
            thing = wrap(thing)
        things.append(thing)
    return things


def anything():
    """Wrong things of all kinds."""
    return WRONG + nested(24) + nested(50)[:3] + [[()] * 2000, ((),) * 2000, {f"k{n}": () for n in range(1000)}]


def trees(nodes, labels):
    """All trees with just so many nodes."""
    if nodes == 0:
        return [()]
    return [(label, left, right) for label in labels for many in range(nodes)
            for left in trees(many, labels) for right in trees(nodes - 1 - many, labels)]


def ways(nodes, labels):
    """All ways with just so many nodes."""
    if nodes == 0:
        return [()]
    return [(side, label, other, way) for side in SIDES for label in labels for many in range(nodes)
            for other in trees(many, labels) for way in ways(nodes - 1 - many, labels)]


def states(nodes, labels):
    """All states with just so many nodes."""
    return [(focus, way, hand) for first in range(nodes + 1) for second in range(nodes + 1 - first)
            for focus in trees(first, labels) for way in ways(second, labels)
            for hand in trees(nodes - first - second, labels)]


def small_states(most, labels):
    """All states with at most so many nodes."""
    return [state for nodes in range(most + 1) for state in states(nodes, labels)]


def chain(nodes, sides, label="a"):
    """A tree with one node on each level, each child on the next one of the sides."""
    tree = ()
    for k in range(nodes):
        tree = (label, tree, ()) if sides[k % len(sides)] == "left" else (label, (), tree)
    return tree


def long_way(nodes, sides, other=()):
    """A way of so many places."""
    way = ()
    for k in range(nodes):
        way = (sides[k % len(sides)], "abc"[k % 3], other, way)
    return way


def full_tree(levels, label="a"):
    """The tree of so many full levels."""
    tree = ()
    for _ in range(levels):
        tree = (label, tree, tree)
    return tree


def flat(thing):
    """The list of all that stands in tuples, without calls within calls, to compare deep ones."""
    found, waiting = [], [thing]
    while waiting:
        here = waiting.pop()
        found.append(len(here) if isinstance(here, tuple) else here)
        if isinstance(here, tuple):
            waiting.extend(here[::-1])
    return found
