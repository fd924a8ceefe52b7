"""Two states with equal focus that show that rules do not hang on the focus alone, or touch more than it."""

from cursorscripts.clashing import leaves_of, other_thing
from cursorscripts.facts import ROOT, expanded, least_of, least_things
from cursorscripts.parting import as_it_is, least_parting
from cursorscripts.rules import result_of
from cursorscripts.sorting import Sorter, sorted_cases


def _is_in_focus(place):
    return place[0] == "f"


def _beside_focus(state):
    return ((), state[1], state[2])


def _far_by_itself(rule):
    """Two states for one rule, where it touches way or hand, or makes the focus of what is in them."""
    facts, state = rule
    touched = least_parting(facts, ROOT, state, _beside_focus)
    if touched is not None:
        return (touched, touched)
    for place in leaves_of((state[0], (), ())):
        if not _is_in_focus(place):
            things = least_things(facts)
            others = {**things, place: other_thing(place, facts)}
            return (expanded(ROOT, facts, things), expanded(ROOT, facts, others))
    return None


def _focus_facts(facts):
    return {place: fact for place, fact in facts.items() if _is_in_focus(place)}


def _only_focus(state):
    return (state[0], (), ())


def _far_from(rule, rules, sorter):
    """Two states with equal focus, of which this rule fits the first, where what is done to them differs."""
    facts, state = rule
    _, way, hand = least_of(facts)
    for more, number, spots in sorted_cases(sorter, _focus_facts(facts), ROOT):
        if number is None:
            other = least_of(more)
        else:
            made = result_of(rules[number], spots)
            other = least_parting(more, _only_focus(state), _only_focus(made), as_it_is)
        if other is not None:
            return ((other[0], way, hand), other)
    return None


def far_of(rules):
    """Two states with equal focus that show that the rules of a list are not local, or None if they are."""
    for rule in rules:
        states = _far_by_itself(rule)
        if states is not None:
            return states
    # Rules that fit the same focuses do the same if each of them does what any one of them does.
    by_focus = {}
    for rule in rules:
        by_focus.setdefault(tuple(sorted(_focus_facts(rule[0]).items())), rule)
    sorter = Sorter([rule[0] for rule in rules])
    for rule in list(by_focus.values()):
        states = _far_from(rule, rules, sorter)
        if states is not None:
            return states
    return None
