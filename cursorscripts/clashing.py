"""Two unlike states of which rules make one state."""

from cursorscripts.facts import (
    ROOT, expanded, facts_of, is_label_place, is_unknown, is_way_place, least_things, marks_of, may_meet,
    new_labels, unknown_places,
)
from cursorscripts.meeting import groups_of
from cursorscripts.unify import Equations


def leaves_of(state):
    """The places that stand in a term, each as often as it does."""
    found = []
    waiting = list(state)
    while waiting:
        here = waiting.pop()
        if is_unknown(here):
            found.append(here[0])
        elif isinstance(here, tuple) and here != ():
            waiting.extend(here[-3:])
    return found


def pattern_made(rule):
    """The pattern that the states fit that a rule makes; the only ones if no place stands in its state twice."""
    facts, state = rule
    return expanded(state, {}, marks_of(facts))


def other_thing(place, facts):
    """What may be at a place, and is not the least thing that may."""
    if is_label_place(place):
        return new_labels(2, facts.get(place, ()))[1]
    return ("left", "a", (), ()) if is_way_place(place) else ("a", (), ())


def _clash_by_itself(rule):
    """Two states that are the same but for what the rule drops, if it drops anything."""
    facts, state = rule
    kept = leaves_of(state)
    for place in unknown_places(facts):
        if place not in kept:
            things = least_things(facts)
            others = {**things, place: other_thing(place, facts)}
            return (expanded(ROOT, facts, things), expanded(ROOT, facts, others))
    return None


def _named(facts, mark):
    """For each unknown its name, which is unlike those with another mark, as a term."""
    return {place: (mark + place,) for place in unknown_places(facts)}


def _barred_names(facts, mark):
    return {mark + place: facts.get(place, ()) for place in unknown_places(facts) if is_label_place(place)}


def _clash_of_two(rule, other):
    """A state for each of two rules of which they make one state; None if there are none."""
    names, other_names = _named(rule[0], "1"), _named(other[0], "2")
    barred = {**_barred_names(rule[0], "1"), **_barred_names(other[0], "2")}
    equations = Equations(barred)
    if not equations.solve(expanded(rule[1], {}, names), expanded(other[1], {}, other_names)):
        return None
    labels = equations.least_labels(list(barred))
    states = (expanded(ROOT, rule[0], names), expanded(ROOT, other[0], other_names))
    return tuple([tuple([equations.least(part, labels) for part in state]) for state in states])


def _clash_in(numbers, rules, made):
    """Two states of which two rules with these numbers make one state; made is what they make, by facts."""
    for at, number in enumerate(numbers):
        for before in numbers[:at]:
            if may_meet(made[number], made[before]):
                states = _clash_of_two(rules[before], rules[number])
                if states is not None:
                    return states
    return None


def clash_of(rules):
    """Two unlike states of which the rules of a list make one state, or None if there are none."""
    for rule in rules:
        states = _clash_by_itself(rule)
        if states is not None:
            return states
    made = [facts_of(pattern_made(rule)) for rule in rules]
    for numbers in groups_of(made):
        states = _clash_in(numbers, rules, made)
        if states is not None:
            return states
    return None
