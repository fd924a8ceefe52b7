"""What is known of a state, place by place.

A place is a string. "f", "w" and "h" are the places of focus, way and hand; the parts of
what stands at a place have this place and one letter more: "n" its label, "l" and "r" the
children of a node, "o" the other child and "u" the rest of a way.

Facts are a dict that tells of places what stands there: EMPTY, NODE, LEFT or RIGHT (the
shape of a tree or a way), a label, or a tuple of barred labels. Of a place that it does not
have nothing is known; a part comes behind the place of what it is a part of. So facts
are a pattern, and its unknowns are the places of which no shape and no label is known.

A term is a state, or a part of one, in which (place,) stands for what is at this place.
"""

TREE = ("tree",)
WAY = ("way",)
EMPTY = 0
NODE = 1
LEFT = 2
RIGHT = 3
SHAPES_OF_TREES = (EMPTY, NODE)
SHAPES_OF_WAYS = (EMPTY, LEFT, RIGHT)
SIDE_OF = {LEFT: "left", RIGHT: "right"}
SHAPE_OF = {"left": LEFT, "right": RIGHT}
LETTERS = "abcdefghijklmnopqrstuvwxyz"
ROOT = (("f",), ("w",), ("h",))


def is_label_place(place):
    """Whether a label stands at a place."""
    return place[-1] == "n"


def is_way_place(place):
    """Whether a way stands at a place."""
    return place[-1] in "wu"


def kind_of(place):
    """What stands at a place: "label", "way" or "tree"."""
    if is_label_place(place):
        return "label"
    return "way" if is_way_place(place) else "tree"


def shapes_at(place):
    """The shapes that may stand at the place of a tree or a way."""
    return SHAPES_OF_WAYS if is_way_place(place) else SHAPES_OF_TREES


def parts_at(place):
    """The places of the three parts of what stands at the place of a tree or a way."""
    if is_way_place(place):
        return (place + "n", place + "o", place + "u")
    return (place + "n", place + "l", place + "r")


def is_unknown(term):
    """Whether a term is (place,)."""
    return isinstance(term, tuple) and len(term) == 1


def shape_of(term):
    """The shape of a term that is a tree or a way and no unknown."""
    if term == ():
        return EMPTY
    return NODE if len(term) == 3 else SHAPE_OF[term[0]]


def opened(term, facts):
    """The term, or what the facts tell of it if it is an unknown."""
    if not is_unknown(term):
        return term
    place = term[0]
    fact = facts.get(place)
    if fact is None or isinstance(fact, tuple):
        return term
    if isinstance(fact, str):
        return fact
    if fact == EMPTY:
        return ()
    parts = tuple([(part,) for part in parts_at(place)])
    return parts if fact == NODE else (SIDE_OF[fact],) + parts


def rebuilt(order, things):
    """The term whose parts stand in an order, each behind what it is a part of; things tells of leaves."""
    made = []
    # From the back the parts of a term come ahead of it, the first one last.
    for here in reversed(order):
        if isinstance(here, str):
            made.append(here)
        elif isinstance(here, int):
            made.append(things[here])
        elif len(here) == 1:
            made.append(things[here[0]])
        elif here == ():
            made.append(())
        else:
            label, first, second = made.pop(), made.pop(), made.pop()
            made.append(here[:-3] + (label, first, second))
    return made[0]


def _expanded_part(term, facts, things):
    order, waiting = [], [term]
    while waiting:
        here = opened(waiting.pop(), facts)
        order.append(here)
        if isinstance(here, tuple) and len(here) > 1:
            waiting.extend(here[:-4:-1])
    return rebuilt(order, things)


def expanded(state, facts, things):
    """The state with all that the facts tell, and with things[place] for each unknown that is left.

    In templates numbers stand for unknowns; there it is things[number].
    """
    focus, way, hand = state
    return (_expanded_part(focus, facts, things), _expanded_part(way, facts, things),
            _expanded_part(hand, facts, things))


def facts_of(pattern):
    """What is known of the states that fit a pattern."""
    facts = {}
    waiting = [("h", pattern[2]), ("w", pattern[1]), ("f", pattern[0])]
    while waiting:
        place, here = waiting.pop()
        if is_label_place(place):
            if here != ():
                facts[place] = here
        elif not is_unknown(here):
            facts[place] = shape_of(here)
            if here != ():
                waiting.extend(list(zip(parts_at(place), here[-3:]))[::-1])
    return facts


def unknown_places(facts):
    """The places of the unknowns, in the order of their numbers."""
    found, waiting = [], ["h", "w", "f"]
    while waiting:
        place = waiting.pop()
        fact = facts.get(place)
        if fact is None or isinstance(fact, tuple):
            found.append(place)
        elif isinstance(fact, int) and fact != EMPTY:
            waiting.extend(parts_at(place)[::-1])
    return found


def _mark_at(place, facts):
    if is_label_place(place):
        return facts.get(place, ())
    return WAY if is_way_place(place) else TREE


def marks_of(facts):
    """What stands in a pattern for each unknown, by places."""
    return {place: _mark_at(place, facts) for place in unknown_places(facts)}


def themselves(facts):
    """Each unknown by its place, as a term."""
    return {place: (place,) for place in unknown_places(facts)}


def pattern_of(facts):
    """The pattern that just the states fit of which the facts are true."""
    return expanded(ROOT, facts, marks_of(facts))


def is_node_fact(fact):
    """Whether a fact tells that there is a node, or a place of a way."""
    return isinstance(fact, int) and fact != EMPTY


def nodes_in(facts):
    """The number of nodes that each state has of which the facts are true, and no more by need."""
    return len([fact for fact in facts.values() if is_node_fact(fact)])


def barred_with(barred, more):
    """Barred labels and more of them, ascending, each once."""
    return tuple(sorted(set(barred + more)))


def agree(fact, other):
    """Whether two facts of one place may be true together."""
    if fact == other:
        return True
    if isinstance(fact, int):
        return False
    if isinstance(fact, str):
        return isinstance(other, tuple) and fact not in other
    return isinstance(other, tuple) or other not in fact


def may_meet(facts, others):
    """Whether a state fits two patterns."""
    for place, fact in facts.items():
        other = others.get(place)
        if other is not None and other != fact and not agree(fact, other):
            return False
    return True


def _learn(facts, here, wanted):
    """Adds to facts what makes the term here as wanted; whether that is possible."""
    if not is_unknown(here):
        if isinstance(wanted, int):
            return shape_of(here) == wanted
        return agree(here, wanted)
    place = here[0]
    known = facts.get(place)
    if known is not None:
        if not agree(known, wanted):
            return False
        if isinstance(wanted, tuple):
            wanted = barred_with(known, wanted)
    facts[place] = wanted
    return True


def matched(wanted, state, facts):
    """The facts with which a state, a term, fits a pattern, and what then stands at the pattern's places.

    None if it never does. The pattern is told by facts, too: wanted.
    """
    learned = dict(facts)
    spots = {"f": state[0], "w": state[1], "h": state[2]}
    for place, fact in wanted.items():
        if not _learn(learned, opened(spots[place], learned), fact):
            return None
        if is_node_fact(fact):
            here = opened(spots[place], learned)
            for part, term in zip(parts_at(place), here[-3:]):
                spots[part] = term
    return (learned, spots)


def label_number(number):
    """The labels by numbers from 0: a, b, .. z, aa, ab and so on."""
    text = LETTERS[number % 26]
    number = number // 26
    while number > 0:
        text = LETTERS[(number - 1) % 26] + text
        number = (number - 1) // 26
    return text


def new_labels(many, used):
    """So many labels that are not among those used."""
    found, number = [], 0
    while len(found) < many:
        label = label_number(number)
        if label not in used:
            found.append(label)
        number += 1
    return found


def least_things(facts):
    """For each unknown the least thing that it may be, by places."""
    things = {}
    for place in unknown_places(facts):
        things[place] = new_labels(1, facts.get(place, ()))[0] if is_label_place(place) else ()
    return things


def least_of(facts):
    """A state with as few nodes as any of which the facts are true."""
    return expanded(ROOT, facts, least_things(facts))
