"""Scripts of commands, and what they do to a state.

Each command that holds no scripts is a function of focus, way and hand (and of its
label, if it has one) that returns the state it makes, or None if it fails.
"""

from cursorscripts.errors import InvalidScript, InvalidState
from cursorscripts.trees import check_state, is_label, node_with


def _go_left(focus, way, hand):
    if focus == ():
        return None
    label, left, right = focus
    return (left, ("left", label, right, way), hand)


def _go_right(focus, way, hand):
    if focus == ():
        return None
    label, left, right = focus
    return (right, ("right", label, left, way), hand)


def _go_up(focus, way, hand):
    if way == ():
        return None
    side, label, other, above = way
    return (node_with(side, label, focus, other), above, hand)


def _clear(_, way, hand):
    return ((), way, hand)


def _cut(focus, way, _):
    return ((), way, focus)


def _copy(focus, way, _):
    return (focus, way, focus)


def _paste(_, way, hand):
    return (hand, way, hand)


def _trade(focus, way, hand):
    return (hand, way, focus)


def _swap(focus, way, hand):
    if focus == ():
        return None
    label, left, right = focus
    return ((label, right, left), way, hand)


def _lift_left(focus, way, hand):
    if focus == ():
        return None
    return (focus[1], way, hand)


def _lift_right(focus, way, hand):
    if focus == ():
        return None
    return (focus[2], way, hand)


def _rise(focus, way, hand):
    if focus == () or way == ():
        return None
    label, left, right = focus
    side, above, other, rest = way
    if side == "left":
        return ((label, left, (above, right, other)), rest, hand)
    return ((label, (above, other, left), right), rest, hand)


def _kept_if(holds, focus, way, hand):
    return (focus, way, hand) if holds else None


def _is_top(focus, way, hand):
    return _kept_if(way == (), focus, way, hand)


def _is_inner(focus, way, hand):
    return _kept_if(way != (), focus, way, hand)


def _is_in_left(focus, way, hand):
    return _kept_if(way != () and way[0] == "left", focus, way, hand)


def _is_in_right(focus, way, hand):
    return _kept_if(way != () and way[0] == "right", focus, way, hand)


def _is_empty(focus, way, hand):
    return _kept_if(focus == (), focus, way, hand)


def _is_full(focus, way, hand):
    return _kept_if(focus != (), focus, way, hand)


def _put(label, focus, way, hand):
    if focus != ():
        return None
    return ((label, (), ()), way, hand)


def _set_label(label, focus, way, hand):
    if focus == ():
        return None
    return ((label, focus[1], focus[2]), way, hand)


def _wrap_left(label, focus, way, hand):
    return ((label, focus, ()), way, hand)


def _wrap_right(label, focus, way, hand):
    return ((label, (), focus), way, hand)


def _has_label(label, focus, way, hand):
    return _kept_if(focus != () and focus[0] == label, focus, way, hand)


def _has_other_label(label, focus, way, hand):
    return _kept_if(focus != () and focus[0] != label, focus, way, hand)


WORDS = {
    "left": _go_left,
    "right": _go_right,
    "up": _go_up,
    "clear": _clear,
    "cut": _cut,
    "copy": _copy,
    "paste": _paste,
    "trade": _trade,
    "swap": _swap,
    "liftleft": _lift_left,
    "liftright": _lift_right,
    "rise": _rise,
    "top": _is_top,
    "inner": _is_inner,
    "inleft": _is_in_left,
    "inright": _is_in_right,
    "empty": _is_empty,
    "full": _is_full,
}

LABEL_WORDS = {
    "put": _put,
    "set": _set_label,
    "wrapleft": _wrap_left,
    "wrapright": _wrap_right,
    "is": _has_label,
    "isnot": _has_other_label,
}

MIRROR_WORDS = {
    "left": "right",
    "right": "left",
    "liftleft": "liftright",
    "liftright": "liftleft",
    "inleft": "inright",
    "inright": "inleft",
    "wrapleft": "wrapright",
    "wrapright": "wrapleft",
}


def is_simple(thing):
    """Whether thing is a command that holds no scripts."""
    if isinstance(thing, str):
        return thing in WORDS
    if not isinstance(thing, tuple) or len(thing) != 2:
        return False
    word, label = thing
    return isinstance(word, str) and word in LABEL_WORDS and is_label(label)


def holds_scripts(thing):
    """Whether thing has the form of a command that holds scripts."""
    if not isinstance(thing, tuple):
        return False
    return (len(thing) == 3 and thing[0] == "else") or (len(thing) == 2 and thing[0] == "not")


def check_command(thing):
    """None if thing is a command, otherwise what follows its number in check_script."""
    if not holds_scripts(thing):
        return None if is_simple(thing) else ()
    for number in range(1, len(thing)):
        problem = check_script(thing[number])
        if problem is not None:
            return (number,) + problem
    return None


def check_script(thing):
    """None if thing is a script, otherwise the numbers that lead to its first problem."""
    if not isinstance(thing, tuple):
        return ()
    for number, command in enumerate(thing):
        problem = check_command(command)
        if problem is not None:
            return (number,) + problem
    return None


def need_script(thing):
    """Raises InvalidScript if thing is no script."""
    problem = check_script(thing)
    if problem is not None:
        raise InvalidScript(problem)


def after_simple(command, focus, way, hand):
    """What a command that holds no scripts makes of a state, or None if it fails."""
    if isinstance(command, str):
        work = WORDS[command]
        return work(focus, way, hand)
    word, label = command
    work_with_label = LABEL_WORDS[word]
    return work_with_label(label, focus, way, hand)


def _after_command(command, state):
    if not holds_scripts(command):
        focus, way, hand = state
        return after_simple(command, focus, way, hand)
    made = state_after(command[1], state)
    if command[0] == "not":
        return state if made is None else None
    return state_after(command[2], state) if made is None else made


def state_after(steps, state):
    """The state that what is known to be a script makes of a state, or None if it fails."""
    for command in steps:
        state = _after_command(command, state)
        if state is None:
            return None
    return state


def run(steps, state):
    """The state that a script makes of a state, or None if it fails."""
    need_script(steps)
    if check_state(state) is not None:
        raise InvalidState(state)
    return state_after(steps, state)


def _mirrored_command(command):
    if isinstance(command, str):
        return MIRROR_WORDS.get(command, command)
    if holds_scripts(command):
        return (command[0],) + tuple([_mirrored_script(script) for script in command[1:]])
    return (MIRROR_WORDS.get(command[0], command[0]), command[1])


def _mirrored_script(steps):
    return tuple([_mirrored_command(command) for command in steps])


def mirrored(steps):
    """The mirror of a script."""
    need_script(steps)
    return _mirrored_script(steps)
