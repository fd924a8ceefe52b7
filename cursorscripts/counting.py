"""How many states of a number of nodes fit a pattern, or a script works for."""

from math import comb

from cursorscripts.counts import need_count
from cursorscripts.errors import InvalidLabels, InvalidPattern
from cursorscripts.facts import facts_of, is_label_place, is_way_place, nodes_in, unknown_places
from cursorscripts.lists import rules_in
from cursorscripts.patterns import are_ascending_labels, check_pattern

MOST = 200


def _need_labels(labels):
    if not are_ascending_labels(labels):
        raise InvalidLabels(labels)


def _power(base, exponent):
    made = 1
    for _ in range(exponent):
        made = made * base
    return made


def _shapes(nodes, trees, ways):
    """In how many ways so many nodes may be shared among some trees and at most one way, labels aside."""
    if ways == 1:
        return comb(2 * nodes + trees, nodes)
    if trees == 0:
        return 1 if nodes == 0 else 0
    return trees * comb(2 * nodes + trees, nodes) // (2 * nodes + trees)


def _label_choices(facts, labels):
    """In how many ways the labels at the places of nodes that are known may be among labels."""
    choices = 1
    for fact in facts.values():
        if isinstance(fact, str) and fact not in labels:
            return 0
    for place in unknown_places(facts):
        if is_label_place(place):
            barred = facts.get(place, ())
            choices = choices * len([label for label in labels if label not in barred])
    return choices


def _count_facts(facts, nodes, labels):
    """The number of states with just so many nodes and such labels of which the facts are true."""
    rest = nodes - nodes_in(facts)
    if rest < 0:
        return 0
    places = [place for place in unknown_places(facts) if not is_label_place(place)]
    ways = len([place for place in places if is_way_place(place)])
    shapes = _shapes(rest, len(places) - ways, ways)
    return shapes * _label_choices(facts, labels) * _power(len(labels), rest)


def count_states(nodes, labels):
    """The number of states with just so many nodes whose labels are all among labels."""
    need_count(nodes, 0, MOST)
    _need_labels(labels)
    return _count_facts({}, nodes, labels)


def count_fits(pattern, nodes, labels):
    """The number of those of them that fit a pattern."""
    if check_pattern(pattern) is not None:
        raise InvalidPattern(pattern)
    need_count(nodes, 0, MOST)
    _need_labels(labels)
    return _count_facts(facts_of(pattern), nodes, labels)


def count_works(steps, nodes, labels):
    """The number of those of them for which a script or list works."""
    rules = rules_in(steps)
    need_count(nodes, 0, MOST)
    _need_labels(labels)
    return sum([_count_facts(facts, nodes, labels) for facts, _ in rules])
