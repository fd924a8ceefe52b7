"""Lists made into scripts."""

from cursorscripts.building import script_of_rule
from cursorscripts.errors import Drops
from cursorscripts.facts import EMPTY, NODE, SIDE_OF, is_way_place, unknown_places
from cursorscripts.lists import list_rules
from cursorscripts.rules import folded
from cursorscripts.sorting import Sorter, answers_to
from cursorscripts.trees import other_side

FAILING = (("not", ()),)
SIDE_BY_LETTER = {"l": "left", "r": "right"}


def _keeps_way(rule):
    facts, state = rule
    places = [place for place in unknown_places(facts) if is_way_place(place)]
    return places == [] or folded(state)[1] == (places[0],)


def _test(question, answer):
    place, label = question
    if label != "":
        return ("is" if answer else "isnot", label)
    if is_way_place(place):
        return "top" if answer == EMPTY else "in" + SIDE_OF[answer]
    return "full" if answer == NODE else "empty"


def _moves_to(place, facts):
    """The commands that lead from the cursor to a place, or to the node whose label is there."""
    moves = ["trade"] if place[0] == "h" else []
    for number, letter in enumerate(place):
        before = place[:number]
        if letter in "lr":
            moves.append(SIDE_BY_LETTER[letter])
        elif number > 0 and is_way_place(before):
            side = SIDE_OF[facts[before]]
            # Tested first, so that what "up" does need not be found out for both sides.
            moves.extend(["in" + side, "up"])
            if letter == "o":
                moves.append(other_side(side))
    return moves


def _probe(question, answer, facts):
    """A script that works where the answer is right, for states of which the facts are true."""
    return tuple(_moves_to(question[0], facts)) + (_test(question, answer),)


def _live_branches(node, sorter):
    """The answers to the question of a node, and the nodes behind them, behind which a rule is possible."""
    found = []
    for answer in answers_to(sorter.question(node)):
        behind = sorter.behind(node, answer)
        if sorter.possible[behind]:
            found.append((answer, behind))
    return found


def _dividing_node(node, sorter):
    """The first node from this one on where at most one rule is possible, or each answer excludes one.

    Where an answer excludes none, it may be supposed: rules that leave the place open test nothing there.
    """
    possible = sorter.possible[node]
    here = node
    while here is not None:
        node = here
        here = None
        if len(possible) > 1:
            for _, behind in _live_branches(node, sorter):
                if sorter.possible[behind] == possible:
                    here = behind
    return node


def _script_at(start, sorter, scripts):
    """The script for the rules that are possible at a node of their questions."""
    node = _dividing_node(start, sorter)
    possible = sorter.possible[node]
    if len(possible) < 2:
        return scripts[possible[0]] if possible else FAILING
    live = _live_branches(node, sorter)
    script = _script_at(live[-1][1], sorter, scripts)
    # The script of a rule tests all, so here it is asked only what tells rules apart.
    for answer, behind in live[-2::-1]:
        probe = _probe(sorter.question(node), answer, sorter.facts[node])
        first = (("not", (("not", probe),)),) + _script_at(behind, sorter, scripts)
        script = (("else", first, (("not", probe),) + script),)
    return script


def script_of(rewritings):
    """A script that does what a list does."""
    rules = list_rules(rewritings)
    for number, rule in enumerate(rules):
        if not _keeps_way(rule):
            raise Drops(number)
    sorter = Sorter([rule[0] for rule in rules])
    return _script_at(0, sorter, [script_of_rule(rule) for rule in rules])
