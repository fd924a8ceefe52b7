"""Rewritings as rules.

A rule is a tuple (facts, state): what the pattern of a rewriting tells, and as a term the
state that its template makes, with (place,) for what is at a place of the pattern.
"""

from cursorscripts.facts import expanded, facts_of, matched, pattern_of, themselves, unknown_places
from cursorscripts.trees import node_with


def rule_with(facts, template):
    """The rule that does what a rewriting does of which the facts are the pattern."""
    terms = [(place,) for place in unknown_places(facts)]
    return (facts, expanded(template, {}, dict(list(enumerate(terms)))))


def rule_of(rewriting):
    """The rule that does what a rewriting does."""
    return rule_with(facts_of(rewriting[0]), rewriting[1])


def plain_rule(facts, state):
    """The rule for the states of which the facts are true, of which a term is made."""
    return (facts, expanded(state, facts, themselves(facts)))


def rewriting_of(rule):
    """The rewriting that does what a rule does."""
    facts, state = rule
    numbers = {place: number for number, place in enumerate(unknown_places(facts))}
    return (pattern_of(facts), expanded(state, facts, numbers))


def result_of(rule, spots):
    """The state that a rule makes, where spots tells what is at the places of its pattern."""
    return expanded(rule[1], {}, spots)


def rule_after(first, second):
    """The rule that does the first and then the second; None if that always fails."""
    fit = matched(second[0], first[1], first[0])
    if fit is None:
        return None
    facts, spots = fit
    return plain_rule(facts, result_of(second, spots))


def folded(state):
    """The tree of a term from where its way ends or is unknown, this end, and the sides from there to the cursor."""
    tree, way, _ = state
    sides = []
    while len(way) == 4:
        side, label, other, way = way
        tree = node_with(side, label, tree, other)
        sides.append(side)
    return (tree, way, sides[::-1])
