"""Whether scripts or lists do the same for all states, and a least state for which they do not."""

from cursorscripts.facts import least_of
from cursorscripts.lists import problem_and_rules, rules_in, script_rules
from cursorscripts.parting import Least, as_it_is, least_not_within, parting_state
from cursorscripts.sorting import least_unfit


def alike(steps, other):
    """None if two scripts or lists are alike, otherwise a least parting state."""
    rules, others = rules_in(steps), rules_in(other)
    return parting_state(rules, others, as_it_is)


def within(steps, other):
    """None if the first script or list is within the second, otherwise a least state that shows that it is not."""
    rules, others = rules_in(steps), rules_in(other)
    return least_not_within(rules, others, as_it_is).state


def check_list_of(steps, thing):
    """None if thing is a list of a script, otherwise the first problem."""
    rules = script_rules(steps)
    problem, others = problem_and_rules(thing)
    if problem is not None:
        return problem
    state = parting_state(rules, others, as_it_is)
    return None if state is None else ("state", state)


def fails(steps):
    """None if a script or list fails for no state, otherwise a least state for which it fails."""
    facts = least_unfit([rule[0] for rule in rules_in(steps)])
    return None if facts is None else least_of(facts)


def works(steps):
    """None if a script or list works for no state, otherwise a least state for which it works."""
    least = Least()
    for facts, _ in rules_in(steps):
        least.offer(facts)
    return least.state
