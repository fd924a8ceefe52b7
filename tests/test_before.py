"""cursorscripts.before: what has to hold ahead of a script (points 1, 2 and 19)."""

import copy
import random
import unittest

import models
import samples
from checks import RaisesCase, TimedCase, problem_of
from cursorscripts.before import before, sure
from cursorscripts.errors import InvalidList, InvalidPattern, InvalidScript
from cursorscripts.lists import list_of
from cursorscripts.patterns import check_pattern, fits, least_state, left_out, meet
from cursorscripts.trees import nodes_of
from models import ANY, PATTERNS, STATES, TREE, WAY
from test_alike import WRONG_LISTS, WRONG_SCRIPTS, AlikeCase, made_by, made_of
from test_lists import EIGHT, ONE, SAME, SCRIPTS

LEAF = ("a", (), ())
FULL = ((), TREE, TREE)
SOME = PATTERNS[::7] + [((("a", "b"), (), TREE), ("left", (), TREE, ()), ()), (LEAF, (), ()), ((), (), ()), ANY,
                        (LEAF, ("left", "b", (), ()), LEAF), (("a", ("b", TREE, ()), TREE), WAY, ("c", TREE, TREE))]
WRONG_PATTERNS = [(TREE, TREE, TREE), (WAY, WAY, TREE), (TREE, WAY), [TREE, WAY, TREE], ((("b", "a"), (), ()), WAY, TREE),
                  (((0), (), ()), (), ()), (TREE, WAY, ("a", (), 0)), (TREE, ("up", "a", (), WAY), TREE), (0, 1, 2)]


class BeforeTest(AlikeCase):
    def check(self, steps, pattern, made):
        found = before(steps, pattern)
        self.assertIsInstance(found, list)
        self.assertEqual([check_pattern(item) for item in found], [None] * len(found))
        for state, result in zip(STATES, made):
            wanted = result is not None and models.fit(pattern, result) is not None
            fitting = [item for item in found if models.fit(item, state) is not None]
            self.assertEqual(len(fitting), 1 if wanted else 0, (steps, pattern, state))
        for number, item in enumerate(found):
            state = least_state(item)
            self.assertIsNotNone(models.fit(pattern, made_of(steps, state)))
            self.assertEqual([meet(item, other) for other in found[:number]], [None] * number)
        return found

    def test_scripts_and_lists(self):
        for steps in SCRIPTS + [("rise", "up"), ("copy",), ("paste",), ("cut", "up"), (("wrapleft", "a"), "right")]:
            made = made_by(steps)
            for pattern in SOME:
                self.check(steps, pattern, made)
            self.check(list_of(steps), SOME[3], made)

    def test_random_scripts_and_patterns(self):
        r = random.Random(101)
        for _ in range(250):
            steps = models.random_script(r, r.randint(0, 5))
            made = made_by(steps)
            results = [state for state in made if state is not None]
            for pattern in [models.random_pattern(r, r.randint(0, 3), ("a", "b", "c")) for _ in range(3)] + results[-1:]:
                self.check(steps, pattern, made)

    def test_lists(self):
        r = random.Random(102)
        for item in models.REWRITINGS:
            made = made_by([item])
            for pattern in SOME + [models.random_pattern(r, 2) for _ in range(5)]:
                self.check([item], pattern, made)
        self.assertEqual(before([], ANY), [])
        self.assertEqual(before([ONE], ((), (), ())), [((), (), ())])
        self.assertEqual(before([ONE], (FULL, WAY, TREE)), [])

    def test_known_answers(self):
        self.assertEqual(before(("up",), (TREE, WAY, LEAF)) == [], False)
        self.assertEqual(before((), ANY), [ANY])
        self.assertEqual(before((), (LEAF, (), ())), [(LEAF, (), ())])
        self.assertEqual(before(("clear",), (FULL, WAY, TREE)), [])
        self.assertEqual(before(("clear",), ((), WAY, LEAF)), [(TREE, WAY, LEAF)])
        self.assertEqual(before((("not", ()),), ANY), [])
        self.assertEqual(before(steps=("copy",), pattern=(LEAF, WAY, TREE)), [(LEAF, WAY, TREE)])
        self.assertEqual(before(("copy",), (LEAF, WAY, ("b", TREE, TREE))), [])
        # What is in two places has to be both.
        self.assertEqual(before(("copy",), (("a", TREE, ()), WAY, ((), LEAF, TREE))), [(("a", LEAF, ()), WAY, TREE)])
        self.assertEqual(before(("copy",), ((("a", "c"), TREE, TREE), WAY, (("b",), (), TREE))),
                         [((("a", "b", "c"), (), TREE), WAY, TREE)])
        self.assertEqual(before(("copy",), (("a", TREE, TREE), WAY, (("a",), TREE, TREE))), [])

    def test_states_of_which_a_given_state_is_made(self):
        for steps in SCRIPTS:
            made = made_by(steps)
            for state in [result for result in made if result is not None][::25]:
                found = self.check(steps, state, made)
                for item in found:
                    self.assertEqual(made_of(steps, least_state(item)), state)

    def test_examples(self):
        self.assertEqual([sure((TREE, (), TREE), ("left", "up"), (FULL, (), TREE)), before(("up",), (TREE, WAY, LEAF)) == []],
                         [None, False])


class SureTest(AlikeCase):
    def check(self, pattern, steps, other, made):
        def wrong(state, result):
            return models.fit(pattern, state) is not None and result is not None and models.fit(other, result) is None
        found = sure(pattern, steps, other)
        self.least(found, [wrong(state, result) for state, result in zip(STATES, made)],
                   lambda state: wrong(state, made_of(steps, state)))
        return found

    def test_scripts(self):
        for steps in SCRIPTS + [("rise",), ("copy",), ("trade", ("wrapright", "b"))]:
            made = made_by(steps)
            for pattern in SOME[::3]:
                for other in SOME[::2]:
                    self.check(pattern, steps, other, made)

    def test_random_scripts_and_patterns(self):
        r = random.Random(103)
        for _ in range(200):
            steps = models.random_script(r, r.randint(0, 5))
            steps = steps if r.random() < 0.7 else list_of(steps)
            made = made_by(steps)
            for _ in range(4):
                pattern, other = [models.random_pattern(r, r.choice((0, 0, 1, 2)), ("a", "b", "c")) for _ in range(2)]
                self.check(pattern, steps, other, made)
                self.check(pattern, steps, pattern, made)

    def test_lists(self):
        for item in models.REWRITINGS:
            made = made_by([item])
            for pattern in SOME[::4]:
                for other in SOME[::4]:
                    self.check(pattern, [item], other, made)

    def test_each_pattern_of_before_leads_there(self):
        for steps in SCRIPTS:
            for pattern in SOME[::2]:
                for item in before(steps, pattern):
                    self.assertIsNone(sure(item, steps, pattern))

    def test_known_answers(self):
        self.assertIsNone(sure(ANY, ("clear",), ((), WAY, TREE)))
        self.assertEqual(sure(ANY, ("clear",), (FULL, WAY, TREE)), ((), (), ()))
        self.assertIsNone(sure(ANY, (("not", ()),), ((), (), ())))
        self.assertIsNone(sure((LEAF, (), ()), (), (LEAF, (), ())))
        self.assertEqual(sure((LEAF, (), ()), (), ((), (), ())), (LEAF, (), ()))
        self.assertIsNone(sure((LEAF, (), LEAF), ("trade",), (LEAF, (), LEAF)))
        self.assertEqual(nodes_of(sure(ANY, ("copy",), (TREE, WAY, ()))), 1)
        self.assertEqual(nodes_of(sure(ANY, ("left", "left"), (TREE, ("left", "a", TREE, WAY), TREE))), 2)
        self.assertEqual(nodes_of(sure((TREE, WAY, ((), LEAF, TREE)), ("paste",), (("b", TREE, TREE), WAY, TREE))), 2)
        # It works for no state that fits the pattern.
        self.assertIsNone(sure(((), WAY, TREE), ("left",), ((), (), ())))
        self.assertIsNone(sure(pattern=ANY, steps=("inner",), other=ANY))

    def test_a_barred_label_where_labels_are_equal(self):
        pattern = ((("b",), TREE, TREE), WAY, TREE)
        self.assertIsNone(sure(pattern, ("copy",), (TREE, WAY, (("b",), TREE, TREE))))
        state = sure(pattern, ("copy",), (TREE, WAY, (("a",), TREE, TREE)))
        self.assertEqual([state[0][0], nodes_of(state)], ["a", 1])
        self.assertIsNone(sure(pattern, ("copy", ("isnot", "a")), (TREE, WAY, (("a", "b"), TREE, TREE))))


class ErrorsTest(RaisesCase):
    def test_steps_come_first(self):
        for wrong in WRONG_LISTS + WRONG_SCRIPTS + samples.anything():
            if problem_of(wrong) is None:
                continue
            error, fields = InvalidList if isinstance(wrong, list) else InvalidScript, {"problem": problem_of(wrong)}
            for pattern in (ANY, 5, None):
                self.raises(error, fields, before, wrong, pattern)
                self.raises(error, fields, sure, pattern, wrong, 5)
                self.raises(error, fields, sure, ANY, wrong, pattern)

    def test_patterns(self):
        for wrong in samples.anything() + WRONG_PATTERNS:
            if check_pattern(wrong) is None:
                continue
            for steps in ((), [], [SAME], ("rise",), (("not", ()),)):
                self.raises(InvalidPattern, {"thing": wrong}, before, steps, wrong)
                self.raises(InvalidPattern, {"thing": wrong}, sure, wrong, steps, ANY)
                self.raises(InvalidPattern, {"thing": wrong}, sure, wrong, steps, 7)
                self.raises(InvalidPattern, {"thing": wrong}, sure, ANY, steps, wrong)


class LimitsTest(TimedCase):
    def test_eight_commands_and_large_patterns(self):
        r = random.Random(104)
        large = [models.random_pattern(r, 40, ("a", "b"), 2) for _ in range(4)]
        large += [(samples.chain(13, ("left", "right")), samples.long_way(13, ("left", "right")), samples.chain(14, ("left",)))]
        large += [(TREE, ("left", (), TREE, ("right", (), TREE, WAY)), samples.full_tree(5)), (samples.full_tree(5), WAY, TREE)]
        for steps in EIGHT + [models.random_script(r, 8) for _ in range(10)]:
            for pattern in large:
                for item in self.quickly(before, steps, pattern)[::50]:
                    self.assertIsNotNone(models.fit(pattern, made_of(steps, least_state(item))))
                    self.assertIsNone(self.quickly(sure, item, steps, pattern))
                for first, second in ((ANY, pattern), (pattern, ANY), (pattern, large[5])):
                    state = self.quickly(sure, first, steps, second)
                    if state is not None:
                        self.assertIsNotNone(models.fit(first, state))
                        self.assertIsNone(models.fit(second, made_of(steps, state)))

    def test_what_was_returned_may_be_passed(self):
        for steps in EIGHT[:6]:
            found = before(steps, (TREE, WAY, LEAF))
            for item in found[::40]:
                self.assertEqual(meet(item, item), item)
                self.assertIsNotNone(fits(item, least_state(item)))
                self.assertTrue(all(check_pattern(part) is None for part in before(("left",), item)))
            self.assertIsNotNone(left_out(found[:3]))


class ArgumentsTest(unittest.TestCase):
    def test_lists_are_new_and_arguments_stay(self):
        for steps in SCRIPTS:
            found = list_of(steps)
            kept = copy.deepcopy(found)
            expected = before(found, SOME[2])
            before(found, SOME[2]).append(5)
            before(steps, SOME[2]).clear()
            self.assertEqual(found, kept)
            self.assertEqual(before(kept, copy.deepcopy(SOME[2])), expected)
            self.assertEqual(sure(SOME[1], found, SOME[4]), sure(SOME[1], kept, SOME[4]))


if __name__ == "__main__":
    unittest.main()
