"""Point 1 for all functions alike: what is passed stays as it is, and wrong things raise only what is stated."""

import copy
import unittest

import samples
from cursorscripts.alike import alike, check_list_of, fails, within, works
from cursorscripts.back import back, check_back, check_clash, clash
from cursorscripts.commands import check_script, mirrored, run
from cursorscripts.counting import count_fits, count_states, count_works
from cursorscripts.errors import CursorError
from cursorscripts.lists import both, check_list, done_by, either, list_of
from cursorscripts.making import script_of
from cursorscripts.patterns import check_pattern, filled, fits, least_state, left_out, less, meet, unknowns
from cursorscripts.rewritings import check_rewriting, done, follow, rewritings_of
from cursorscripts.trees import check_state, is_tree, mirror_of, nodes_of, path_of, state_at, whole

ANY = (("tree",), ("way",), ("tree",))
PATTERN = ((("a",), ("tree",), ()), ("left", (), ("tree",), ("way",)), ("tree",))
TURN = (ANY, (2, 1, 0))
STATE = (("a", ("b", (), ()), ()), ("left", "c", ("d", (), ()), ()), ("e", (), ()))
CALLS = (
    lambda x: is_tree(x), lambda x: check_state(x), lambda x: check_script(x), lambda x: nodes_of(x),
    lambda x: whole(x), lambda x: path_of(x), lambda x: mirror_of(x), lambda x: mirrored(x),
    lambda x: state_at(x, ()), lambda x: state_at(("a", (), ()), x), lambda x: state_at((), (), x),
    lambda x: state_at(x, x, x), lambda x: state_at(STATE[0], [x]), lambda x: run(x, STATE), lambda x: run((), x),
    lambda x: run(x, x), lambda x: run(("copy", ("put", x)), STATE), lambda x: run((("not", x),), STATE),
    lambda x: run((), (x, (), ())), lambda x: run((), ((), x, ())), lambda x: run((), ((), (), x)),
    lambda x: check_state(((), ("left", "a", x, ()), ())), lambda x: check_state(((), (x, "a", (), ()), ())),
    lambda x: check_script((x,)), lambda x: check_script((("else", (x,), x),)), lambda x: check_script(((x, x),)),
    check_pattern, unknowns, least_state, left_out, lambda x: left_out([x, ANY]), lambda x: left_out((ANY, x)),
    lambda x: fits(x, STATE), lambda x: fits(PATTERN, x), lambda x: filled(x, ()), lambda x: filled(PATTERN, x),
    lambda x: filled(PATTERN, ("b", x, "c", (), x, ())), lambda x: filled(PATTERN, (x, (), x, (), x, x)),
    lambda x: meet(x, ANY), lambda x: meet(PATTERN, x), lambda x: less(x, ANY), lambda x: less(ANY, x),
    lambda x: check_pattern((x, x, x)), lambda x: meet((x, ("way",), ()), (("tree",), ("way",), x)),
    check_rewriting, lambda x: check_rewriting((PATTERN, x)), lambda x: check_rewriting((x, (0, 1, 2))),
    lambda x: check_rewriting((PATTERN, (x, x, x))), lambda x: done(x, STATE), lambda x: done(TURN, x),
    lambda x: done((ANY, (0, 1, x)), STATE), lambda x: follow(x, TURN), lambda x: follow(TURN, x), rewritings_of,
    lambda x: rewritings_of(("put", x)), lambda x: rewritings_of((x, "a")),
    list_of, lambda x: list_of(("up", x)), check_list, lambda x: check_list([TURN, x]), lambda x: check_list([(ANY, x)]),
    lambda x: done_by(x, STATE), lambda x: done_by([TURN], x), lambda x: done_by([x], STATE),
    lambda x: both(x, [TURN]), lambda x: both([TURN], x), lambda x: either(x, [TURN]), lambda x: either([TURN], x),
    lambda x: either([x], [x]),
    lambda x: alike(x, ()), lambda x: alike([TURN], x), lambda x: within(x, []), lambda x: within(("up",), x), fails, works,
    lambda x: alike((x,), [x]), lambda x: check_list_of(x, [TURN]), lambda x: check_list_of(("trade",), x),
    lambda x: check_list_of(("trade",), [x]), script_of, lambda x: script_of([TURN, x]), lambda x: script_of([(ANY, x)]),
    lambda x: count_states(x, ("a",)), lambda x: count_states(2, x), lambda x: count_states(2, (x,)),
    lambda x: count_fits(x, 2, ("a",)), lambda x: count_fits(ANY, x, x), lambda x: count_works(x, 2, ("a",)),
    lambda x: count_works(("left",), 1, x), clash, back, lambda x: check_clash(("clear",), x), lambda x: check_clash(x, x),
    lambda x: check_clash(("clear",), (STATE, x)), lambda x: check_back(x, [TURN]), lambda x: check_back(("trade",), x),
    lambda x: check_back([TURN], [x]), lambda x: check_back(("trade",), [TURN, x]),
)


def answer(call, thing):
    """What the call returns or raises."""
    try:
        return ("returned", call(thing))
    except CursorError as error:
        return ("raised", error.__class__, vars(error))


class ArgumentsTest(unittest.TestCase):
    def test_what_is_passed_stays_as_it_is(self):
        good = [STATE, STATE[0], ("left", ("not", ("up",)), ("set", "x")), (), ["left", "left"], ("left",), PATTERN, ANY,
                TURN, [TURN], [ANY, PATTERN], list_of(("rise",)), 3, ("b", (), "c", (), (), ())]
        for call in CALLS:
            for thing in samples.anything() + good:
                passed = copy.deepcopy(thing)
                first = answer(call, passed)
                self.assertEqual(passed, thing)
                self.assertEqual(answer(call, passed), first)
                self.assertEqual(passed, thing)

    def test_bools_stand_for_no_integers_and_no_labels(self):
        for truth in (True, False):
            self.assertIs(is_tree((truth, (), ())), False)
            self.assertEqual(check_state(((), ("left", truth, (), ()), ())), ("way",))
            self.assertEqual(check_script((("put", truth),)), (0,))

    def test_questions_are_answered_by_true_and_false(self):
        for thing in samples.anything() + [STATE, STATE[0], ()]:
            self.assertIn(repr(is_tree(thing)), ("True", "False"))
            self.assertIn(repr(check_clash(("clear",), thing)), ("True", "False"))
            self.assertIn(repr(check_clash([TURN], (STATE, thing))), ("True", "False"))


if __name__ == "__main__":
    unittest.main()
