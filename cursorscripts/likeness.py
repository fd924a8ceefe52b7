"""Whether scripts or lists do for all states what is alike, but perhaps not equal."""

from cursorscripts.errors import InvalidLikeness
from cursorscripts.lists import rules_in
from cursorscripts.parting import least_not_within, parting_state
from cursorscripts.rules import folded


def _state_itself(state):
    return state


def _tree_and_hand(state):
    # Where the way is unknown its end stays in view: with another end the trees differ for some way.
    tree, end, _ = folded(state)
    return (tree, end, state[2])


def _tree_alone(state):
    tree, end, _ = folded(state)
    return (tree, end, ())


def _nothing(_):
    return ((), (), ())


VIEWS = {"state": _state_itself, "tree and hand": _tree_and_hand, "tree": _tree_alone, "works": _nothing}


def _need_likeness(thing):
    if not isinstance(thing, str) or thing not in VIEWS:
        raise InvalidLikeness(thing)


def alike_in(likeness, steps, other):
    """None if two scripts or lists are alike in a likeness, otherwise a least state for which they are not."""
    _need_likeness(likeness)
    rules, others = rules_in(steps), rules_in(other)
    view = VIEWS[likeness]
    return parting_state(rules, others, view)


def within_in(likeness, steps, other):
    """None if the first is within the second in a likeness, otherwise a least state that shows that it is not."""
    _need_likeness(likeness)
    rules, others = rules_in(steps), rules_in(other)
    view = VIEWS[likeness]
    return least_not_within(rules, others, view).state
