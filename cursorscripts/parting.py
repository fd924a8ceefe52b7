"""Least states for which two terms differ, or rules do not make what they should."""

from cursorscripts.facts import (
    ROOT, expanded, is_label_place, is_way_place, least_of, new_labels, nodes_in, themselves,
)
from cursorscripts.rules import result_of
from cursorscripts.sorting import Sorter, sorted_cases
from cursorscripts.trees import nodes_of


def _labels_of_term(state):
    found = []
    waiting = list(state)
    while waiting:
        here = waiting.pop()
        if isinstance(here, str):
            found.append(here)
        elif len(here) > 1:
            waiting.extend(here[-3:])
    return found


def _labels_of_facts(facts):
    found = []
    for fact in facts.values():
        if isinstance(fact, str):
            found.append(fact)
        elif isinstance(fact, tuple):
            found.extend(fact)
    return found


def _grown(things, place, label):
    """The same things, with one node where nothing stood."""
    thing = ("left", label, (), ()) if is_way_place(place) else (label, (), ())
    return {**things, place: thing}


def new_things(facts, used):
    """Things for the unknowns in many ways: first as few nodes as possible, then one unknown after the other with one.

    All labels are unlike each other and unlike those used, so that no two terms are equal by accident.
    """
    places = list(themselves(facts))
    labels = new_labels(len(places) + 1, used)
    least = {place: label if is_label_place(place) else () for place, label in zip(places, labels)}
    grown = [_grown(least, place, labels[-1]) for place in places if not is_label_place(place)]
    return [least] + grown


def as_it_is(state):
    """The view in which states differ if they are not equal."""
    return state


def least_parting(facts, one, other, view):
    """A state with as few nodes as any of which the facts are true and two terms differ; None if there is none.

    A view tells what of a term is looked at, as a term.
    """
    leaves = themselves(facts)
    first, second = view(expanded(one, facts, leaves)), view(expanded(other, facts, leaves))
    if first == second:
        return None
    used = _labels_of_facts(facts) + _labels_of_term(first) + _labels_of_term(second)
    for things in new_things(facts, used):
        if expanded(first, facts, things) != expanded(second, facts, things):
            return expanded(ROOT, facts, things)
    return None


class Least:
    """The state with the fewest nodes of those that are offered."""

    def __init__(self):
        self.state = None
        self.nodes = None

    def is_late(self, facts):
        """Whether no state of which the facts are true has fewer nodes."""
        return self.nodes is not None and nodes_in(facts) >= self.nodes

    def _take(self, state):
        nodes = nodes_of(state)
        if self.nodes is None or nodes < self.nodes:
            self.state = state
            self.nodes = nodes

    def offer(self, facts):
        """Offers the least state of which the facts are true."""
        if not self.is_late(facts):
            self._take(least_of(facts))

    def offer_parting(self, facts, one, other, view):
        """Offers the least state of which the facts are true and two terms differ in a view, if there is one."""
        if not self.is_late(facts):
            state = least_parting(facts, one, other, view)
            if state is not None:
                self._take(state)


def offer_unmade(least, cases, rules, view):
    """Offers the states for which the rules of a list do not make what they should.

    A case is a tuple (facts, term, wanted): of this term the rules should make what is in
    the view as what is wanted, for all states of which the facts are true. If it is None,
    they should just work.
    """
    sorter = Sorter([rule[0] for rule in rules])
    for facts, term, wanted in cases:
        if least.is_late(facts):
            continue
        for more, number, spots in sorted_cases(sorter, facts, term):
            if number is None:
                least.offer(more)
            elif wanted is not None:
                least.offer_parting(more, wanted, result_of(rules[number], spots), view)


def least_not_within(rules, others, view):
    """The least state, as a Least, for which some rules work, and others fail or make what differs in the view."""
    least = Least()
    offer_unmade(least, [(facts, ROOT, state) for facts, state in rules], others, view)
    return least


def parting_state(rules, others, view):
    """A least state for which some rules or others fail and not both do, or what they make differs in the view."""
    least = least_not_within(rules, others, view)
    offer_unmade(least, [(facts, ROOT, None) for facts, _ in others], rules, view)
    return least.state
