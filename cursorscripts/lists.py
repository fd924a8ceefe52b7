"""Lists of rewritings of which at most one fits each state, and what scripts do as lists."""

from cursorscripts.cells import cells_of
from cursorscripts.commands import need_script, state_after
from cursorscripts.errors import InvalidList, InvalidState
from cursorscripts.facts import ROOT, matched
from cursorscripts.meeting import first_meeting
from cursorscripts.rewritings import looked_at
from cursorscripts.rules import plain_rule, result_of, rewriting_of, rule_after, rule_of, rule_with
from cursorscripts.sorting import Sorter, sorted_cases
from cursorscripts.trees import check_state


def script_rules(steps):
    """The rules of a list of a script; raises InvalidScript."""
    need_script(steps)
    return [plain_rule(facts, state) for facts, state in cells_of(steps)]


def list_of(steps):
    """A list that does what a script does."""
    return [rewriting_of(rule) for rule in script_rules(steps)]


def _patterns_in(thing):
    """The first problem of what should be a list and None, or None and what its patterns tell."""
    if not isinstance(thing, list):
        return (("form",), None)
    found = []
    for number, item in enumerate(thing):
        problem, facts = looked_at(item)
        if problem is not None:
            return (("rewriting", number), None)
        found.append(facts)
    meeting = first_meeting(found)
    return (None, found) if meeting is None else (("both", meeting[1], meeting[0]), None)


def check_list(thing):
    """None if thing is a list of rewritings no two of which fit one state, otherwise the first problem."""
    return _patterns_in(thing)[0]


def problem_and_rules(thing):
    """The first problem of what should be a list and None, or None and its rules."""
    problem, many = _patterns_in(thing)
    if problem is not None:
        return (problem, None)
    return (None, [rule_with(facts, item[1]) for facts, item in zip(many, thing)])


def list_rules(thing):
    """The rules of a list; raises InvalidList."""
    problem, rules = problem_and_rules(thing)
    if problem is not None:
        raise InvalidList(problem)
    return rules


def rules_in(steps):
    """The rules of a script or list; raises InvalidScript or InvalidList."""
    return list_rules(steps) if isinstance(steps, list) else script_rules(steps)


def need_steps(steps):
    """Raises InvalidScript or InvalidList if steps are no script and no list."""
    if isinstance(steps, list):
        list_rules(steps)
    else:
        need_script(steps)


def made_by(rules, state):
    """The state that the rules of a list make of a state, or None if it fails."""
    for rule in rules:
        fit = matched(rule[0], state, {})
        if fit is not None:
            return result_of(rule, fit[1])
    return None


def made_of(steps, state):
    """The state that what is known to be a script or list makes of a state, or None if it fails."""
    if isinstance(steps, list):
        return made_by([rule_of(rewriting) for rewriting in steps], state)
    return state_after(steps, state)


def done_by(rewritings, state):
    """The state that a list makes of a state, or None if it fails."""
    rules = list_rules(rewritings)
    if check_state(state) is not None:
        raise InvalidState(state)
    return made_by(rules, state)


def rules_after(rules, then):
    """The rules of a list that does what some rules do, and then what others do."""
    made = [rule_after(rule, other) for rule in rules for other in then]
    return [rule for rule in made if rule is not None]


def both(first, second):
    """A list that does the first list and then the second."""
    rules, then = list_rules(first), list_rules(second)
    return [rewriting_of(rule) for rule in rules_after(rules, then)]


def either(first, second):
    """A list that does the first list, and where it fails the second."""
    rules, others = list_rules(first), list_rules(second)
    sorter = Sorter([rule[0] for rule in rules])
    made = list(rules)
    for facts, state in others:
        made.extend([plain_rule(more, state) for more, number, _ in sorted_cases(sorter, facts, ROOT)
                     if number is None])
    return [rewriting_of(rule) for rule in made]
