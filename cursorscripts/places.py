"""Scripts at one place of a tree: whether they touch nothing else, and what they do there."""

from cursorscripts.commands import need_script
from cursorscripts.errors import InvalidPath
from cursorscripts.lists import made_of, need_steps, rules_in
from cursorscripts.touching import far_of
from cursorscripts.trees import is_pair_of_states, is_side, state_at, whole


def far(steps):
    """None if a script or list is local, otherwise two states with equal focus that show that it is not."""
    return far_of(rules_in(steps))


def check_far(steps, thing):
    """Whether thing is a tuple of two states with equal focus that show that a script or list is not local."""
    need_steps(steps)
    if not is_pair_of_states(thing) or thing[0][0] != thing[1][0]:
        return False
    one, other = made_of(steps, thing[0]), made_of(steps, thing[1])
    if one is None or other is None:
        return one != other
    return one[0] != other[0] or one[1:] != thing[0][1:] or other[1:] != thing[1][1:]


def done_at(tree, path, steps):
    """The whole tree behind doing a script or list where path leads, with an empty hand; None if it fails."""
    need_steps(steps)
    made = made_of(steps, state_at(tree, path))
    return None if made is None else whole(made)


def sent(steps, path):
    """The script that goes along a path, does a script there, and comes back."""
    need_script(steps)
    if not isinstance(path, (tuple, list)):
        raise InvalidPath(None)
    for place, side in enumerate(path):
        if not is_side(side):
            raise InvalidPath(place)
    return tuple(path) + steps + ("up",) * len(path)
