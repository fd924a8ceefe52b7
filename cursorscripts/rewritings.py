"""Rewritings: a pattern, and a template that tells what becomes of the states that fit it."""

from cursorscripts.cells import cells_of
from cursorscripts.commands import is_simple
from cursorscripts.errors import InvalidCommand, InvalidRewriting, InvalidState
from cursorscripts.facts import facts_of, matched
from cursorscripts.patterns import check_pattern, kinds_of
from cursorscripts.rules import plain_rule, result_of, rewriting_of, rule_after, rule_with
from cursorscripts.trees import check_state, is_label, is_side


def _is_number_of(thing, kind, kinds):
    if not isinstance(thing, int) or isinstance(thing, bool):
        return False
    return 0 <= thing < len(kinds) and kinds[thing] == kind


def _is_label_template(thing, kinds):
    return is_label(thing) or _is_number_of(thing, "label", kinds)


def _is_tree_template(thing, kinds):
    waiting = [thing]
    while waiting:
        here = waiting.pop()
        if here == () or _is_number_of(here, "tree", kinds):
            continue
        if not isinstance(here, tuple) or len(here) != 3 or not _is_label_template(here[0], kinds):
            return False
        waiting.append(here[2])
        waiting.append(here[1])
    return True


def _is_way_template(thing, kinds):
    here = thing
    while here != () and not _is_number_of(here, "way", kinds):
        if not isinstance(here, tuple) or len(here) != 4:
            return False
        side, label, other, here = here
        if not is_side(side) or not _is_label_template(label, kinds) or not _is_tree_template(other, kinds):
            return False
    return True


def _is_template(thing, kinds):
    if not isinstance(thing, tuple) or len(thing) != 3:
        return False
    focus, way, hand = thing
    return _is_tree_template(focus, kinds) and _is_way_template(way, kinds) and _is_tree_template(hand, kinds)


def looked_at(thing):
    """The first problem of what should be a rewriting and None, or None and what its pattern tells."""
    if not isinstance(thing, tuple) or len(thing) != 2:
        return (("form",), None)
    pattern, template = thing
    if check_pattern(pattern) is not None:
        return (("pattern",), None)
    facts = facts_of(pattern)
    if not _is_template(template, kinds_of(facts)):
        return (("template",), None)
    return (None, facts)


def check_rewriting(thing):
    """None if thing is a rewriting, otherwise the first problem."""
    return looked_at(thing)[0]


def _rule_in(thing):
    """The rule that does what a rewriting does; raises InvalidRewriting."""
    problem, facts = looked_at(thing)
    if problem is not None:
        raise InvalidRewriting(thing)
    return rule_with(facts, thing[1])


def done(rewriting, state):
    """The state that a rewriting makes of a state, or None if it fails."""
    rule = _rule_in(rewriting)
    if check_state(state) is not None:
        raise InvalidState(state)
    fit = matched(rule[0], state, {})
    return None if fit is None else result_of(rule, fit[1])


def follow(first, second):
    """The rewriting that does what the first and then the second do; None if that always fails."""
    rule, then = _rule_in(first), _rule_in(second)
    made = rule_after(rule, then)
    return None if made is None else rewriting_of(made)


def rewritings_of(command):
    """The rewritings, at most two, that do what a command does that holds no scripts."""
    if not is_simple(command):
        raise InvalidCommand(command)
    return [rewriting_of(plain_rule(facts, state)) for facts, state in cells_of((command,))]
