"""Whether a script or list makes one state of two, and what leads back from it."""

from cursorscripts.clashing import clash_of, leaves_of, pattern_made
from cursorscripts.errors import NoBack, NotOneToOne
from cursorscripts.facts import ROOT, expanded, facts_of, matched, unknown_places
from cursorscripts.lists import made_by, problem_and_rules, rules_in
from cursorscripts.parting import Least, as_it_is, offer_unmade
from cursorscripts.rules import rewriting_of
from cursorscripts.trees import is_pair_of_states


def clash(steps):
    """None if a script or list is one-to-one, otherwise two unlike states of which it makes one state."""
    return clash_of(rules_in(steps))


def check_clash(steps, thing):
    """Whether thing is a tuple of two unlike states of which a script or list makes one state."""
    rules = rules_in(steps)
    if not is_pair_of_states(thing) or thing[0] == thing[1]:
        return False
    made = made_by(rules, thing[0])
    return made is not None and made == made_by(rules, thing[1])


def _reversed_rule(rule):
    """The rule that makes of the states that a rule makes what they were made of."""
    facts, state = rule
    made = facts_of(pattern_made(rule))
    spots = matched(made, state, facts)[1]
    things = {spots[place][0]: (place,) for place in unknown_places(made)}
    return (made, expanded(ROOT, facts, things))


def back(steps):
    """A list that leads back from a script or list."""
    rules = rules_in(steps)
    states = clash_of(rules)
    if states is not None:
        raise NotOneToOne(states)
    for _, state in rules:
        leaves = leaves_of(state)
        if len(leaves) != len(set(leaves)):
            raise NoBack()
    return [rewriting_of(_reversed_rule(rule)) for rule in rules]


def _least_not_back(rules, others):
    """A least state for which some rules work, but others do not make it again of the result; None if there is none."""
    least = Least()
    offer_unmade(least, [(facts, state, ROOT) for facts, state in rules], others, as_it_is)
    return least.state


def check_back(steps, thing):
    """None if thing is a list that leads back from a script or list, otherwise the first problem."""
    rules = rules_in(steps)
    problem, others = problem_and_rules(thing)
    if problem is not None:
        return problem
    state = _least_not_back(rules, others)
    if state is not None:
        return ("script", state)
    state = _least_not_back(others, rules)
    return None if state is None else ("list", state)
