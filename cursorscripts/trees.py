"""Trees, and the states of a cursor in a tree.

States may be nested far deeper than Python calls may be, so everything here goes
over them in loops instead of calling itself.
"""

from cursorscripts.errors import InvalidPath, InvalidState, InvalidTree

SIDES = ("left", "right")


def is_label(thing):
    """Whether thing is a string of one or more letters from a to z."""
    return isinstance(thing, str) and thing.isascii() and thing.isalpha() and thing.islower()


def is_side(thing):
    """Whether thing is "left" or "right"."""
    return thing in SIDES


def is_tree(thing):
    """Whether thing is a tree."""
    waiting = [thing]
    while waiting:
        tree = waiting.pop()
        if tree == ():
            continue
        if not isinstance(tree, tuple) or len(tree) != 3 or not is_label(tree[0]):
            return False
        waiting.append(tree[2])
        waiting.append(tree[1])
    return True


def is_way(thing):
    """Whether thing is a way."""
    way = thing
    while way != ():
        if not isinstance(way, tuple) or len(way) != 4:
            return False
        side, label, other, way = way
        if not is_side(side) or not is_label(label) or not is_tree(other):
            return False
    return True


def check_state(thing):
    """None if thing is a state, otherwise the first problem."""
    if not isinstance(thing, tuple) or len(thing) != 3:
        return ("form",)
    focus, way, hand = thing
    if not is_tree(focus):
        return ("focus",)
    if not is_way(way):
        return ("way",)
    if not is_tree(hand):
        return ("hand",)
    return None


def _need_state(thing):
    if check_state(thing) is not None:
        raise InvalidState(thing)


def is_pair_of_states(thing):
    """Whether thing is a tuple of two states."""
    if not isinstance(thing, tuple) or len(thing) != 2:
        return False
    return check_state(thing[0]) is None and check_state(thing[1]) is None


def other_side(side):
    """The side that is not this one."""
    return "right" if side == "left" else "left"


def node_with(side, label, child, other):
    """The node with this label that has child on this side, and other on the other one."""
    if side == "left":
        return (label, child, other)
    return (label, other, child)


def steps_up(way):
    """The list of (side, label, other) that leads from the cursor up to the root."""
    steps = []
    while way != ():
        side, label, other, way = way
        steps.append((side, label, other))
    return steps


def _count_nodes(tree):
    count = 0
    waiting = [tree]
    while waiting:
        here = waiting.pop()
        if here != ():
            count += 1
            waiting.append(here[1])
            waiting.append(here[2])
    return count


def nodes_of(state):
    """The number of nodes of a state."""
    _need_state(state)
    focus, way, hand = state
    count = _count_nodes(focus) + _count_nodes(hand)
    for step in steps_up(way):
        count += 1 + _count_nodes(step[2])
    return count


def whole(state):
    """The whole tree in which the cursor of a state stands, without the hand."""
    _need_state(state)
    tree, way, _ = state
    for side, label, other in steps_up(way):
        tree = node_with(side, label, tree, other)
    return tree


def path_of(state):
    """The tuple of sides that lead from the root of the whole tree to the cursor."""
    _need_state(state)
    sides = [step[0] for step in steps_up(state[1])]
    return tuple(sides[::-1])


def _mirror_tree(tree):
    order = []
    waiting = [tree]
    while waiting:
        here = waiting.pop()
        order.append(here)
        if here != ():
            waiting.append(here[1])
            waiting.append(here[2])
    # From the back the children of a node come ahead of it, the right one last.
    made = []
    for here in reversed(order):
        if here == ():
            made.append(())
        else:
            right = made.pop()
            left = made.pop()
            made.append((here[0], right, left))
    return made[0]


def _mirror_way(way):
    mirror = ()
    for side, label, other in reversed(steps_up(way)):
        mirror = (other_side(side), label, _mirror_tree(other), mirror)
    return mirror


def mirror_of(state):
    """The mirror of a state."""
    _need_state(state)
    focus, way, hand = state
    return (_mirror_tree(focus), _mirror_way(way), _mirror_tree(hand))


def state_at(tree, path, hand=()):
    """The state with this whole tree and hand whose cursor is where path leads from the root."""
    if not is_tree(tree):
        raise InvalidTree(tree)
    if not isinstance(path, (tuple, list)):
        raise InvalidPath(None)
    focus, way = tree, ()
    for place, side in enumerate(path):
        if not is_side(side) or focus == ():
            raise InvalidPath(place)
        label, left, right = focus
        if side == "left":
            focus, way = left, ("left", label, right, way)
        else:
            focus, way = right, ("right", label, left, way)
    if not is_tree(hand):
        raise InvalidTree(hand)
    return (focus, way, hand)
