"""Points 5 to 8 word by word, another time than in the package, and patterns and rewritings to try."""

import samples

TREE, WAY = ("tree",), ("way",)
ANY = (TREE, WAY, TREE)


def is_label(thing):
    return isinstance(thing, str) and thing != "" and all(c in "abcdefghijklmnopqrstuvwxyz" for c in thing)


def is_barred(thing):
    return (isinstance(thing, tuple) and all(is_label(label) for label in thing)
            and all(one < other for one, other in zip(thing, thing[1:])))


def is_tree_pattern(thing):
    if not isinstance(thing, tuple):
        return False
    if thing in ((), TREE):
        return True
    return (len(thing) == 3 and (is_label(thing[0]) or is_barred(thing[0]))
            and is_tree_pattern(thing[1]) and is_tree_pattern(thing[2]))


def is_way_pattern(thing):
    if not isinstance(thing, tuple):
        return False
    if thing in ((), WAY):
        return True
    return (len(thing) == 4 and isinstance(thing[0], str) and thing[0] in ("left", "right")
            and (is_label(thing[1]) or is_barred(thing[1])) and is_tree_pattern(thing[2]) and is_way_pattern(thing[3]))


def pattern_problem(thing):
    if not isinstance(thing, tuple) or len(thing) != 3:
        return ("form",)
    good = (is_tree_pattern(thing[0]), is_way_pattern(thing[1]), is_tree_pattern(thing[2]))
    return None if all(good) else (("focus",), ("way",), ("hand",))[good.index(False)]


def label_kinds(label):
    return ["label"] if isinstance(label, tuple) else []


def tree_kinds(tree):
    if tree == TREE:
        return ["tree"]
    return label_kinds(tree[0]) + tree_kinds(tree[1]) + tree_kinds(tree[2]) if tree else []


def way_kinds(way):
    if way == WAY:
        return ["way"]
    return label_kinds(way[1]) + tree_kinds(way[2]) + way_kinds(way[3]) if way else []


def kinds(pattern):
    return tree_kinds(pattern[0]) + way_kinds(pattern[1]) + tree_kinds(pattern[2])


def joined(*parts):
    return None if None in parts else [thing for part in parts for thing in part]


def fit_label(pattern, label):
    if isinstance(pattern, str):
        return [] if pattern == label else None
    return None if label in pattern else [label]


def fit_tree(pattern, tree):
    if pattern == TREE:
        return [tree]
    if pattern == () or tree == ():
        return [] if pattern == tree else None
    return joined(fit_label(pattern[0], tree[0]), fit_tree(pattern[1], tree[1]), fit_tree(pattern[2], tree[2]))


def fit_way(pattern, way):
    if pattern == WAY:
        return [way]
    if pattern == () or way == () or pattern[0] != way[0]:
        return [] if pattern == way else None
    return joined(fit_label(pattern[1], way[1]), fit_tree(pattern[2], way[2]), fit_way(pattern[3], way[3]))


def fit(pattern, state):
    """What the unknowns are, or None."""
    found = joined(fit_tree(pattern[0], state[0]), fit_way(pattern[1], state[1]), fit_tree(pattern[2], state[2]))
    return None if found is None else tuple(found)


def put_in(template, things):
    """A template, or a part of one, with things for its numbers."""
    if isinstance(template, int):
        return things[template]
    if isinstance(template, str):
        return template
    return tuple(put_in(part, things) for part in template)


def do(rewriting, state):
    things = fit(rewriting[0], state)
    return None if things is None else put_in(rewriting[1], things)


def do_list(rewritings, state):
    made = [do(rewriting, state) for rewriting in rewritings if fit(rewriting[0], state) is not None]
    assert len(made) < 2
    return made[0] if made else None


def same(pattern):
    """The rewriting that changes nothing, for the states that fit a pattern."""
    numbers = iter(range(10 ** 6))

    def label(part):
        return part if isinstance(part, str) else next(numbers)

    def tree(part):
        if part == TREE:
            return next(numbers)
        return (label(part[0]), tree(part[1]), tree(part[2])) if part else ()

    def way(part):
        if part == WAY:
            return next(numbers)
        return (part[0], label(part[1]), tree(part[2]), way(part[3])) if part else ()

    return (pattern, (tree(pattern[0]), way(pattern[1]), tree(pattern[2])))


TREES = (TREE, (), ((), TREE, TREE), ("a", TREE, ()), (("a", "c"), (), TREE), ("b", ((), (), TREE), TREE))
WAYS = (WAY, (), ("left", (), TREE, WAY), ("right", ("a",), (), WAY), ("left", "a", TREE, ()),
        ("right", "b", ("a", (), TREE), ("left", ("b",), TREE, WAY)))
HANDS = (TREE, (), (("b",), TREE, TREE))
PATTERNS = [(tree, way, hand) for tree in TREES for way in WAYS for hand in HANDS]
STATES = samples.small_states(2, ("a", "b", "c")) + samples.states(3, ("a",))


def many(cut):
    """Every so manieth pattern, beginning with that which fits all."""
    return PATTERNS[::cut]


# What follows one another here brings unlike labels together, or trees that have to be equal, or parts of unknowns.
REWRITINGS = [
    (ANY, (0, 1, 2)), (ANY, (2, 1, 0)), (ANY, (0, 1, 0)), (ANY, ((), 1, 0)), (ANY, ((), (), ())),
    (ANY, (("a", 0, 2), 1, 0)), (ANY, (0, ("left", "b", 2, 1), 2)), (ANY, (2, ("right", "a", 0, ()), ("b", 0, 0))),
    ((((), TREE, TREE), WAY, TREE), (1, ("left", 0, 2, 3), 4)),
    ((((), TREE, TREE), WAY, TREE), ((0, 2, 1), 3, (0, 1, 1))),
    ((TREE, ("left", (), TREE, WAY), TREE), ((1, 0, 2), 3, 4)),
    ((TREE, ("right", (), TREE, WAY), TREE), ((1, 2, 0), 3, 4)),
    (((("a",), TREE, ()), WAY, ((), TREE, TREE)), (("a", ("b", (), 4), 1), ("left", 0, 4, 2), (3, 1, ()))),
    ((("a", (), TREE), ("left", ("b",), (), ()), TREE), (("b", 2, 0), (), (1, 0, 0))),
    (((), ("right", ("a", "b"), ("b", TREE, ()), WAY), ("b", TREE, ())), ((0, 1, ()), 2, ("b", 3, 1))),
    ((("b", TREE, TREE), WAY, ("b", TREE, TREE)), (("a", 1, 4), 2, ("b", 0, 3))),
    (((("b",), ((), TREE, TREE), TREE), WAY, TREE), ((1, (0, 2, ()), (0, (), 4)), 5, (1, (), ()))),
]


def random_tree(r, nodes, labels, barred):
    if nodes == 0:
        return r.choice((TREE, ()))
    first = r.randint(0, nodes - 1)
    return (random_label(r, labels, barred), random_tree(r, first, labels, barred),
            random_tree(r, nodes - 1 - first, labels, barred))


def random_label(r, labels, barred):
    if r.random() < 0.4:
        return r.choice(labels)
    return tuple(sorted(r.sample(labels, r.randint(0, min(barred, len(labels))))))


def random_way(r, nodes, labels, barred):
    if nodes == 0:
        return r.choice((WAY, ()))
    beside = r.randint(0, nodes - 1) if r.random() < 0.5 else 0
    return (r.choice(("left", "right")), random_label(r, labels, barred), random_tree(r, beside, labels, barred),
            random_way(r, nodes - 1 - beside, labels, barred))


def random_pattern(r, nodes, labels=("a", "b"), barred=2):
    """A pattern with so many nodes."""
    first = r.randint(0, nodes)
    second = r.randint(0, nodes - first)
    return (random_tree(r, first, labels, barred), random_way(r, second, labels, barred),
            random_tree(r, nodes - first - second, labels, barred))


def numbers_of(pattern, kind):
    return [number for number, found in enumerate(kinds(pattern)) if found == kind]


def random_tree_template(r, nodes, labels, trees):
    if nodes == 0:
        return r.choice(trees)
    first = r.randint(0, nodes - 1)
    return (r.choice(labels), random_tree_template(r, first, labels, trees),
            random_tree_template(r, nodes - 1 - first, labels, trees))


def random_template(r, nodes, pattern, labels=("a", "b")):
    """A template with so many nodes for a pattern; it keeps the way."""
    labels = list(labels) + numbers_of(pattern, "label") * 2
    trees = [()] + numbers_of(pattern, "tree") * 2
    way = (numbers_of(pattern, "way") + [()])[0]
    first = r.randint(0, nodes)
    second = r.randint(0, min(4, nodes - first))
    for _ in range(second):
        way = (r.choice(("left", "right")), r.choice(labels), r.choice(trees), way)
    return (random_tree_template(r, first, labels, trees), way,
            random_tree_template(r, nodes - first - second, labels, trees))


def random_script(r, commands, labels=("a", "b", "c")):
    """A script of so many commands in all."""
    words = ("left", "right", "up", "clear", "cut", "copy", "paste", "trade", "swap", "liftleft", "liftright", "rise",
             "top", "inner", "inleft", "inright", "empty", "full")
    steps = []
    while commands > 0:
        chance = r.random()
        if chance < 0.35 and commands > 1:
            inner = r.randint(1, commands - 1)
            first = r.randint(0, inner)
            steps.append(("else", random_script(r, first, labels), random_script(r, inner - first, labels)))
            commands -= inner + 1
        elif chance < 0.45 and commands > 1:
            inner = r.randint(1, commands - 1)
            steps.append(("not", random_script(r, inner, labels)))
            commands -= inner + 1
        else:
            word = r.choice(words + ("put", "set", "wrapleft", "wrapright", "is", "isnot", "is", "isnot"))
            steps.append(word if word in words else (word, r.choice(labels)))
            commands -= 1
    return tuple(steps)


def commands_in(steps):
    """The number of commands of a script in all."""
    many = 0
    for command in steps:
        many += 1
        if isinstance(command, tuple) and command[0] in ("else", "not"):
            many += sum(commands_in(script) for script in command[1:])
    return many
