"""Point 1 for all functions alike: what is passed stays as it is, and wrong things raise only what is stated."""

import copy
import unittest

import samples
from cursorscripts.commands import check_script, mirrored, run
from cursorscripts.errors import CursorError
from cursorscripts.trees import check_state, is_tree, mirror_of, nodes_of, path_of, state_at, whole

STATE = (("a", ("b", (), ()), ()), ("left", "c", ("d", (), ()), ()), ("e", (), ()))
CALLS = (
    lambda x: is_tree(x), lambda x: check_state(x), lambda x: check_script(x), lambda x: nodes_of(x),
    lambda x: whole(x), lambda x: path_of(x), lambda x: mirror_of(x), lambda x: mirrored(x),
    lambda x: state_at(x, ()), lambda x: state_at(("a", (), ()), x), lambda x: state_at((), (), x),
    lambda x: state_at(x, x, x), lambda x: state_at(STATE[0], [x]), lambda x: run(x, STATE), lambda x: run((), x),
    lambda x: run(x, x), lambda x: run(("copy", ("put", x)), STATE), lambda x: run((("not", x),), STATE),
    lambda x: run((), (x, (), ())), lambda x: run((), ((), x, ())), lambda x: run((), ((), (), x)),
    lambda x: check_state(((), ("left", "a", x, ()), ())), lambda x: check_state(((), (x, "a", (), ()), ())),
    lambda x: check_script((x,)), lambda x: check_script((("else", (x,), x),)), lambda x: check_script(((x, x),)),
)


def answer(call, thing):
    """What the call returns or raises."""
    try:
        return ("returned", call(thing))
    except CursorError as error:
        return ("raised", error.__class__, vars(error))


class ArgumentsTest(unittest.TestCase):
    def test_what_is_passed_stays_as_it_is(self):
        good = [STATE, STATE[0], ("left", ("not", ("up",)), ("set", "x")), (), ["left", "left"], ("left",)]
        for call in CALLS:
            for thing in samples.anything() + good:
                passed = copy.deepcopy(thing)
                first = answer(call, passed)
                self.assertEqual(passed, thing)
                self.assertEqual(answer(call, passed), first)
                self.assertEqual(passed, thing)

    def test_bools_stand_for_no_integers_and_no_labels(self):
        for truth in (True, False):
            self.assertIs(is_tree((truth, (), ())), False)
            self.assertEqual(check_state(((), ("left", truth, (), ()), ())), ("way",))
            self.assertEqual(check_script((("put", truth),)), (0,))

    def test_questions_are_answered_by_true_and_false(self):
        for thing in samples.anything() + [STATE, STATE[0], ()]:
            self.assertIn(repr(is_tree(thing)), ("True", "False"))


if __name__ == "__main__":
    unittest.main()
