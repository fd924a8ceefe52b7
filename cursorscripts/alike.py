"""Whether scripts or lists do the same for all states, and a least state for which they do not."""

from cursorscripts.facts import ROOT, least_of
from cursorscripts.lists import check_list, rules_in, rules_of, script_rules
from cursorscripts.parting import Least, offer_unmade
from cursorscripts.sorting import least_unfit


def _least_not_within(rules, others):
    """The least state, as a Least, for which some rules work, and others fail or make another state."""
    least = Least()
    offer_unmade(least, [(facts, ROOT, state) for facts, state in rules], others)
    return least


def _parting_state(rules, others):
    least = _least_not_within(rules, others)
    offer_unmade(least, [(facts, ROOT, None) for facts, _ in others], rules)
    return least.state


def alike(steps, other):
    """None if two scripts or lists are alike, otherwise a least parting state."""
    rules, others = rules_in(steps), rules_in(other)
    return _parting_state(rules, others)


def within(steps, other):
    """None if the first script or list is within the second, otherwise a least state that shows that it is not."""
    rules, others = rules_in(steps), rules_in(other)
    return _least_not_within(rules, others).state


def check_list_of(steps, thing):
    """None if thing is a list of a script, otherwise the first problem."""
    rules = script_rules(steps)
    problem = check_list(thing)
    if problem is not None:
        return problem
    state = _parting_state(rules, rules_of(thing))
    return None if state is None else ("state", state)


def fails(steps):
    """None if a script or list fails for no state, otherwise a least state for which it fails."""
    facts = least_unfit([rule[0] for rule in rules_in(steps)])
    return None if facts is None else least_of(facts)


def works(steps):
    """None if a script or list works for no state, otherwise a least state for which it works."""
    least = Least()
    for facts, _ in rules_in(steps):
        least.offer(facts)
    return least.state
