"""Lists of rewritings of which at most one fits each state, and what scripts do as lists."""

from cursorscripts.cells import cells_of
from cursorscripts.commands import need_script
from cursorscripts.errors import InvalidList, InvalidState
from cursorscripts.facts import ROOT, matched
from cursorscripts.meeting import first_meeting
from cursorscripts.rewritings import check_rewriting
from cursorscripts.rules import plain_rule, result_of, rewriting_of, rule_after, rule_of
from cursorscripts.sorting import Sorter, sorted_cases
from cursorscripts.trees import check_state


def script_rules(steps):
    """The rules of a list of a script; raises InvalidScript."""
    need_script(steps)
    return [plain_rule(facts, state) for facts, state in cells_of(steps)]


def list_of(steps):
    """A list that does what a script does."""
    return [rewriting_of(rule) for rule in script_rules(steps)]


def check_list(thing):
    """None if thing is a list of rewritings no two of which fit one state, otherwise the first problem."""
    if not isinstance(thing, list):
        return ("form",)
    for number, item in enumerate(thing):
        if check_rewriting(item) is not None:
            return ("rewriting", number)
    meeting = first_meeting([rule_of(rewriting)[0] for rewriting in thing])
    return None if meeting is None else ("both", meeting[1], meeting[0])


def rules_of(rewritings):
    """The rules of a list."""
    return [rule_of(rewriting) for rewriting in rewritings]


def list_rules(thing):
    """The rules of a list; raises InvalidList."""
    problem = check_list(thing)
    if problem is not None:
        raise InvalidList(problem)
    return rules_of(thing)


def rules_in(steps):
    """The rules of a script or list; raises InvalidScript or InvalidList."""
    return list_rules(steps) if isinstance(steps, list) else script_rules(steps)


def made_by(rules, state):
    """The state that the rules of a list make of a state, or None if it fails."""
    for rule in rules:
        fit = matched(rule[0], state, {})
        if fit is not None:
            return result_of(rule, fit[1])
    return None


def done_by(rewritings, state):
    """The state that a list makes of a state, or None if it fails."""
    rules = list_rules(rewritings)
    if check_state(state) is not None:
        raise InvalidState(state)
    return made_by(rules, state)


def both(first, second):
    """A list that does the first list and then the second."""
    rules, then = list_rules(first), list_rules(second)
    made = [rule_after(rule, other) for rule in rules for other in then]
    return [rewriting_of(rule) for rule in made if rule is not None]


def either(first, second):
    """A list that does the first list, and where it fails the second."""
    rules, others = list_rules(first), list_rules(second)
    sorter = Sorter([rule[0] for rule in rules])
    made = list(rules)
    for facts, state in others:
        made.extend([plain_rule(more, state) for more, number, _ in sorted_cases(sorter, facts, ROOT)
                     if number is None])
    return [rewriting_of(rule) for rule in made]
