"""Point 1 for all functions alike: what is passed stays as it is, and wrong things raise only what is stated."""

import copy
import unittest

import samples
from cursorscripts.alike import alike, check_list_of, fails, within, works
from cursorscripts.back import back, check_back, check_clash, clash
from cursorscripts.before import before, sure
from cursorscripts.commands import check_script, mirrored, run
from cursorscripts.counting import count_fits, count_states, count_works
from cursorscripts.desk import Desk
from cursorscripts.errors import CursorError
from cursorscripts.likeness import alike_in, within_in
from cursorscripts.lists import both, check_list, done_by, either, list_of
from cursorscripts.making import script_of
from cursorscripts.patterns import check_pattern, filled, fits, least_state, left_out, less, meet, unknowns
from cursorscripts.places import check_far, done_at, far, sent
from cursorscripts.repeats import commute, repeats
from cursorscripts.rewritings import check_rewriting, done, follow, rewritings_of
from cursorscripts.search import shortest
from cursorscripts.trees import check_state, is_tree, mirror_of, nodes_of, path_of, state_at, whole
from cursorscripts.writing import list_text, read_list, read_script, script_text

ANY = (("tree",), ("way",), ("tree",))
PATTERN = ((("a",), ("tree",), ()), ("left", (), ("tree",), ("way",)), ("tree",))
TURN = (ANY, (2, 1, 0))
STATE = (("a", ("b", (), ()), ()), ("left", "c", ("d", (), ()), ()), ("e", (), ()))


def on_a_desk(name, *arguments):
    """What a method of a desk returns, and what the desk tells then."""
    desk = Desk()
    desk.put("a", STATE)
    desk.do("a", ("copy",))
    methods = {"put": desk.put, "drop": desk.drop, "do": desk.do, "state": desk.state, "leave_out": desk.leave_out}
    return (methods[name](*arguments), desk.names(), desk.deeds(), [desk.state(kept) for kept in desk.names()])


CALLS = (
    lambda x: is_tree(x), lambda x: check_state(x), lambda x: check_script(x), lambda x: nodes_of(x),
    lambda x: whole(x), lambda x: path_of(x), lambda x: mirror_of(x), lambda x: mirrored(x),
    lambda x: state_at(x, ()), lambda x: state_at(("a", (), ()), x), lambda x: state_at((), (), x),
    lambda x: state_at(x, x, x), lambda x: state_at(STATE[0], [x]), lambda x: run(x, STATE), lambda x: run((), x),
    lambda x: run(x, x), lambda x: run(("copy", ("put", x)), STATE), lambda x: run((("not", x),), STATE),
    lambda x: run((), (x, (), ())), lambda x: run((), ((), x, ())), lambda x: run((), ((), (), x)),
    lambda x: check_state(((), ("left", "a", x, ()), ())), lambda x: check_state(((), (x, "a", (), ()), ())),
    lambda x: check_script((x,)), lambda x: check_script((("else", (x,), x),)), lambda x: check_script(((x, x),)),
    check_pattern, unknowns, least_state, left_out, lambda x: left_out([x, ANY]), lambda x: left_out((ANY, x)),
    lambda x: fits(x, STATE), lambda x: fits(PATTERN, x), lambda x: filled(x, ()), lambda x: filled(PATTERN, x),
    lambda x: filled(PATTERN, ("b", x, "c", (), x, ())), lambda x: filled(PATTERN, (x, (), x, (), x, x)),
    lambda x: meet(x, ANY), lambda x: meet(PATTERN, x), lambda x: less(x, ANY), lambda x: less(ANY, x),
    lambda x: check_pattern((x, x, x)), lambda x: meet((x, ("way",), ()), (("tree",), ("way",), x)),
    check_rewriting, lambda x: check_rewriting((PATTERN, x)), lambda x: check_rewriting((x, (0, 1, 2))),
    lambda x: check_rewriting((PATTERN, (x, x, x))), lambda x: done(x, STATE), lambda x: done(TURN, x),
    lambda x: done((ANY, (0, 1, x)), STATE), lambda x: follow(x, TURN), lambda x: follow(TURN, x), rewritings_of,
    lambda x: rewritings_of(("put", x)), lambda x: rewritings_of((x, "a")),
    list_of, lambda x: list_of(("up", x)), check_list, lambda x: check_list([TURN, x]), lambda x: check_list([(ANY, x)]),
    lambda x: done_by(x, STATE), lambda x: done_by([TURN], x), lambda x: done_by([x], STATE),
    lambda x: both(x, [TURN]), lambda x: both([TURN], x), lambda x: either(x, [TURN]), lambda x: either([TURN], x),
    lambda x: either([x], [x]),
    lambda x: alike(x, ()), lambda x: alike([TURN], x), lambda x: within(x, []), lambda x: within(("up",), x), fails, works,
    lambda x: alike((x,), [x]), lambda x: check_list_of(x, [TURN]), lambda x: check_list_of(("trade",), x),
    lambda x: check_list_of(("trade",), [x]), script_of, lambda x: script_of([TURN, x]), lambda x: script_of([(ANY, x)]),
    lambda x: count_states(x, ("a",)), lambda x: count_states(2, x), lambda x: count_states(2, (x,)),
    lambda x: count_fits(x, 2, ("a",)), lambda x: count_fits(ANY, x, x), lambda x: count_works(x, 2, ("a",)),
    lambda x: count_works(("left",), 1, x), clash, back, lambda x: check_clash(("clear",), x), lambda x: check_clash(x, x),
    lambda x: check_clash(("clear",), (STATE, x)), lambda x: check_back(x, [TURN]), lambda x: check_back(("trade",), x),
    lambda x: check_back([TURN], [x]), lambda x: check_back(("trade",), [TURN, x]),
    lambda x: commute(x, ("swap",)), lambda x: commute(("swap",), x), lambda x: commute(x, x), lambda x: repeats(x, 1),
    lambda x: repeats(("swap",), x), lambda x: repeats(x, x), far, lambda x: far([x]), lambda x: check_far(x, x),
    lambda x: check_far(("left",), x), lambda x: check_far([TURN], (STATE, x)), lambda x: done_at(x, (), ("swap",)),
    lambda x: done_at(STATE[0], x, ("swap",)), lambda x: done_at(STATE[0], [x, "left"], [TURN]), lambda x: done_at(x, x, x),
    lambda x: sent(x, ("left",)), lambda x: sent(("swap",), x), lambda x: sent((), ("left", x)), lambda x: sent(x, x),
    lambda x: shortest(x, ["swap"], 2), lambda x: shortest(("full",), x, 1), lambda x: shortest(("full",), ["swap", x], 1),
    lambda x: shortest((), (("put", x),), 1), lambda x: shortest(("full",), ["swap"], x), lambda x: shortest(x, x, x),
    lambda x: before(x, PATTERN), lambda x: before(("left",), x), lambda x: before([TURN], (x, x, x)),
    lambda x: sure(x, ("left",), ANY), lambda x: sure(ANY, x, PATTERN), lambda x: sure(ANY, [TURN], x), lambda x: sure(x, x, x),
    lambda x: alike_in(x, (), ()), lambda x: alike_in("tree", x, ()), lambda x: alike_in("works", [TURN], x),
    lambda x: within_in(x, x, x), lambda x: within_in("state", x, ("copy",)), lambda x: within_in("tree and hand", (), x),
    script_text, lambda x: script_text(("up", x)), read_script, list_text, lambda x: list_text([x]), read_list,
    lambda x: on_a_desk("put", x, STATE), lambda x: on_a_desk("put", "b", x), lambda x: on_a_desk("drop", x),
    lambda x: on_a_desk("do", x, ()), lambda x: on_a_desk("do", "a", x), lambda x: on_a_desk("do", "a", ("copy", x)),
    lambda x: on_a_desk("state", x), lambda x: on_a_desk("leave_out", x),
)


def answer(call, thing):
    """What the call returns or raises."""
    try:
        return ("returned", call(thing))
    except CursorError as error:
        return ("raised", error.__class__, vars(error))


class ArgumentsTest(unittest.TestCase):
    def test_what_is_passed_stays_as_it_is(self):
        good = [STATE, STATE[0], ("left", ("not", ("up",)), ("set", "x")), (), ["left", "left"], ("left",), PATTERN, ANY,
                TURN, [TURN], [ANY, PATTERN], list_of(("rise",)), 3, ("b", (), "c", (), (), ()), (STATE, STATE)]
        good += ["a", "tree", "up [", "* | * | * -> 2 | 1 | 0", 0, 1, True, ["swap", "full"]]
        for call in CALLS:
            for thing in samples.anything() + good:
                passed = copy.deepcopy(thing)
                first = answer(call, passed)
                self.assertEqual(passed, thing)
                self.assertEqual(answer(call, passed), first)
                self.assertEqual(passed, thing)

    def test_bools_stand_for_no_integers_and_no_labels(self):
        for truth in (True, False):
            self.assertIs(is_tree((truth, (), ())), False)
            self.assertEqual(check_state(((), ("left", truth, (), ()), ())), ("way",))
            self.assertEqual(check_script((("put", truth),)), (0,))

    def test_questions_are_answered_by_true_and_false(self):
        for thing in samples.anything() + [STATE, STATE[0], ()]:
            self.assertIn(repr(is_tree(thing)), ("True", "False"))
            self.assertIn(repr(check_clash(("clear",), thing)), ("True", "False"))
            self.assertIn(repr(check_clash([TURN], (STATE, thing))), ("True", "False"))
            self.assertIn(repr(check_far(("up",), thing)), ("True", "False"))
            self.assertIn(repr(check_far([TURN], (STATE, thing))), ("True", "False"))


if __name__ == "__main__":
    unittest.main()
