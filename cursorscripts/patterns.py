"""Patterns: which states fit them, what they have in common, and what they leave out."""

from cursorscripts.errors import InvalidFilling, InvalidPattern, InvalidState
from cursorscripts.facts import (
    ROOT, TREE, WAY, expanded, facts_of, is_label_place, is_way_place, kind_of, least_of, matched, may_meet, pattern_of,
    unknown_places,
)
from cursorscripts.sorting import answer_of, answers_to, least_unfit, open_questions, with_answer
from cursorscripts.trees import check_state, is_label, is_side, is_tree, is_way


def are_ascending_labels(thing):
    """Whether thing is a tuple of labels, ascending, each once."""
    if not isinstance(thing, tuple):
        return False
    for label in thing:
        if not is_label(label):
            return False
    return list(thing) == sorted(set(thing))


def _is_label_pattern(thing):
    return is_label(thing) or are_ascending_labels(thing)


def _is_tree_pattern(thing):
    waiting = [thing]
    while waiting:
        here = waiting.pop()
        if here == () or here == TREE:
            continue
        if not isinstance(here, tuple) or len(here) != 3 or not _is_label_pattern(here[0]):
            return False
        waiting.append(here[2])
        waiting.append(here[1])
    return True


def _is_way_pattern(thing):
    here = thing
    while here != () and here != WAY:
        if not isinstance(here, tuple) or len(here) != 4:
            return False
        side, label, other, here = here
        if not is_side(side) or not _is_label_pattern(label) or not _is_tree_pattern(other):
            return False
    return True


def check_pattern(thing):
    """None if thing is a pattern, otherwise the first problem."""
    if not isinstance(thing, tuple) or len(thing) != 3:
        return ("form",)
    focus, way, hand = thing
    if not _is_tree_pattern(focus):
        return ("focus",)
    if not _is_way_pattern(way):
        return ("way",)
    if not _is_tree_pattern(hand):
        return ("hand",)
    return None


def facts_in(pattern):
    """What a pattern tells; raises InvalidPattern."""
    if check_pattern(pattern) is not None:
        raise InvalidPattern(pattern)
    return facts_of(pattern)


def kinds_of(facts):
    """What each unknown of a pattern is, in order."""
    return [kind_of(place) for place in unknown_places(facts)]


def unknowns(pattern):
    """The list that tells of each unknown whether it is a "tree", a "way" or a "label"."""
    return kinds_of(facts_in(pattern))


def fits(pattern, state):
    """The tuple of what the unknowns of a pattern are in a state, or None if the state does not fit."""
    facts = facts_in(pattern)
    if check_state(state) is not None:
        raise InvalidState(state)
    fit = matched(facts, state, {})
    if fit is None:
        return None
    spots = fit[1]
    return tuple([spots[place] for place in unknown_places(facts)])


def _may_stand(thing, place, facts):
    if is_label_place(place):
        return is_label(thing) and thing not in facts.get(place, ())
    return is_way(thing) if is_way_place(place) else is_tree(thing)


def filled(pattern, things):
    """The state that is made of a pattern by putting things in the place of its unknowns."""
    facts = facts_in(pattern)
    places = unknown_places(facts)
    if not isinstance(things, tuple) or len(things) != len(places):
        raise InvalidFilling(things)
    for thing, place in zip(things, places):
        if not _may_stand(thing, place, facts):
            raise InvalidFilling(things)
    return expanded(ROOT, facts, dict(list(zip(places, things))))


def meet(pattern, other):
    """The pattern that just the states fit that fit both patterns, or None if there are none."""
    facts, others = facts_in(pattern), facts_in(other)
    fit = matched(others, ROOT, facts)
    return None if fit is None else pattern_of(fit[0])


def less(pattern, other):
    """Patterns that just the states fit that fit pattern and not other, no state fitting two of them."""
    facts, others = facts_in(pattern), facts_in(other)
    if not may_meet(facts, others):
        return [pattern]
    found = []
    # What of pattern is not told apart from other by an answer so far gets ever nearer to their meet.
    questions = open_questions(facts, others)
    while questions:
        question = questions[0]
        right = answer_of(question, others[question[0]])
        found.extend([pattern_of(with_answer(facts, question, answer))
                      for answer in answers_to(question) if answer != right])
        facts = with_answer(facts, question, right)
        questions = open_questions(facts, others)
    return found


def least_state(pattern):
    """A state with as few nodes as any that fits a pattern."""
    return least_of(facts_in(pattern))


def left_out(patterns):
    """None if each state fits one of the patterns, otherwise a state with as few nodes as any that fits none."""
    if not isinstance(patterns, (list, tuple)):
        raise InvalidPattern(patterns)
    facts = least_unfit([facts_in(pattern) for pattern in patterns])
    return None if facts is None else least_of(facts)
