"""cursorscripts.repeats: scripts in another order, and done several times (points 1, 2, 9 and 12)."""

import copy
import random
import unittest

import models
import samples
from checks import RaisesCase, TimedCase, problem_of
from cursorscripts.alike import alike
from cursorscripts.commands import run
from cursorscripts.errors import InvalidCount, InvalidList, InvalidScript
from cursorscripts.lists import both, check_list, list_of
from cursorscripts.repeats import commute, repeats
from cursorscripts.trees import nodes_of
from models import ANY, STATES, TREE, WAY
from test_alike import WRONG_LISTS, WRONG_SCRIPTS, AlikeCase, made_of
from test_lists import EIGHT, ONE, SAME, SCRIPTS

SET, CLEAR, IS = (("set", "a"),), ("clear",), (("is", "a"),)
COMMUTING = [((), ("rise",)), (("swap",), ("full",)), (IS, ("swap",)), (("swap",), ("trade", "swap", "trade")),
             (("left",), ("left", "left")), (("top",), ("swap",)), ((("not", ()),), ("rise",)), (("top", "up"), ("copy",)),
             (("left", "swap", "up"), ("right", "swap", "up")), (("left",) + SET + ("up",), ("right", "clear", "up")),
             (SET, ("left", "clear", "up")), ((("not", ("up",)),), IS), (SET, SET * 2), (("rise", "rise"), ("rise",))]
ORDERED = [(("left",), ("right",)), (CLEAR, ("copy",)), (("swap",), ("left",)), (SET, (("set", "b"),)), (("up",), ("rise",)),
           ((("put", "a"),), CLEAR), (("top",), ("left",)), (IS, SET), (("trade",), CLEAR), (("copy",), ("trade",)),
           ((("wrapleft", "a"),), ("left",)), (("left", "swap", "up"), ("left", "clear", "up"))]
FULL = (((), TREE, TREE), WAY, TREE)


def relabelled(pairs, last):
    """The list that gives other labels to nodes, and does something else to all other states."""
    found = [(((old, TREE, TREE), WAY, TREE), ((new, 0, 1), 2, 3)) for old, new in pairs]
    rest = (tuple(sorted(old for old, _ in pairs)), TREE, TREE)
    return found + [((rest, WAY, TREE), last), (((), WAY, TREE), ((), 0, 1))]


def times(steps, many):
    """A script or list done so many times."""
    if not isinstance(steps, list):
        return steps * many
    made = [SAME]
    for _ in range(many):
        made = both(made, steps)
    return made


def first_pair(steps, most):
    """Point 12, word by word, by alike."""
    for n in range(1, most + 1):
        for m in range(n):
            if alike(times(steps, m), times(steps, n)) is None:
                return (m, n)
    return None


class CommuteTest(AlikeCase):
    def check(self, steps, other):
        """What commute tells, seen against all small states."""
        def behind(one, two, state):
            made = made_of(one, state)
            return None if made is None else made_of(two, made)

        def differ(state):
            return behind(steps, other, state) != behind(other, steps, state)
        found = commute(steps, other)
        self.least(found, [differ(state) for state in STATES], differ)
        return found

    def test_known_pairs(self):
        for pairs, commuting in ((COMMUTING, True), (ORDERED, False)):
            for one, two in pairs:
                for steps in (one, list_of(one)):
                    for other in (two, list_of(two)):
                        self.assertEqual(self.check(steps, other) is None, commuting, (one, two))
                        self.assertEqual(commute(other, steps) is None, commuting, (one, two))

    def test_nothing_to_do(self):
        for steps in SCRIPTS + [[], [ONE], list_of(("rise",)), (("not", ()),)]:
            for nothing in ((), [SAME], [], ("top", "up")):
                self.assertIsNone(commute(steps, nothing))
                self.assertIsNone(commute(nothing, steps))
            self.assertIsNone(commute(steps, steps))

    def test_scripts(self):
        for steps in SCRIPTS:
            for other in SCRIPTS:
                if models.commands_in(steps) + models.commands_in(other) <= 8:
                    self.check(steps, other)

    def test_random_scripts_and_lists(self):
        r = random.Random(71)
        for _ in range(300):
            steps, other = models.random_script(r, r.randint(0, 4)), models.random_script(r, r.randint(0, 4))
            self.check(r.choice((steps, list_of(steps))), r.choice((other, list_of(other))))

    def test_random_lists(self):
        r = random.Random(72)
        lists = [[item] for item in models.REWRITINGS] + [[]]
        for _ in range(400):
            found = [r.choice(models.REWRITINGS) for _ in range(2)]
            if check_list(found) is None:
                lists.append(found)
        for steps in lists:
            self.check(steps, r.choice(lists))
            self.check(steps, models.random_script(r, 2))

    def test_least_states(self):
        for steps, other, nodes in ((("left",), ("right",), 2), (CLEAR, ("copy",), 1), (("top",), ("left",), 1),
                                    (("swap",), ("left",), 1), ((("put", "a"),), CLEAR, 0), (("left",) * 3, ("right",), 4),
                                    (("up",), ("left", "left"), 2), (("trade",), ("left", "liftleft", "up"), 2)):
            self.assertEqual(nodes_of(commute(steps, other)), nodes, (steps, other))

    def test_by_name(self):
        self.assertIsNone(commute(steps=("swap",), other=("full",)))
        self.assertIsNone(commute(other=("swap",), steps=()))


class RepeatsTest(unittest.TestCase):
    def test_known_pairs(self):
        for steps, most, expected in (
                (("swap",), 4, (1, 3)), (("swap",), 3, (1, 3)), (("swap",), 2, None), (("swap",), 1, None),
                (("left",), 4, None), (("left",), 1, None), ((), 1, (0, 1)), ((), 4, (0, 1)), (("trade",), 1, None),
                (("trade",), 2, (0, 2)), (("trade",), 4, (0, 2)), (("copy",), 4, (1, 2)), (("full",), 2, (1, 2)),
                (("full",), 1, None), (("cut",), 4, (2, 3)), (("cut",), 3, (2, 3)), (("cut",), 2, None),
                ((("not", ()),), 4, (1, 2)), (("top", "up"), 2, (1, 2)), (("up",), 4, None), (("rise",), 4, None),
                ((("put", "a"),), 4, (2, 3)), ((("wrapleft", "a"),), 4, None), (("swap", "swap"), 4, (1, 2)),
                ((("else", ("swap",), ()),), 2, (0, 2)), (("trade", "cut"), 4, (1, 2)), (("left", "up"), 4, (1, 2)),
                ((("else", ("left",), ()),), 2, None), (("liftleft",), 4, None), (("inner", ("set", "a")), 2, (1, 2))):
            self.assertEqual(repeats(steps, most), expected, (steps, most))
            self.assertEqual(repeats(list_of(steps), most), expected, (steps, most))

    def test_lists(self):
        turned = [(FULL, ((0, 2, 4), 3, 1))]
        dropped = [(FULL, ((0, (), 1), 3, 2))]
        same = ((), WAY, TREE)
        circle = relabelled([("a", "b"), ("b", "c"), ("c", "a")], ((0, 1, 2), 3, 4))
        falling = relabelled([("a", "b"), ("b", "c")], ((0, 1, 2), 3, 4))
        for found, most, expected in (
                (turned, 4, (1, 4)), (turned, 3, None), (turned + [(same, ((), 0, 1))], 4, (0, 3)),
                (turned + [(same, ((), 0, 1))], 2, None), (dropped, 4, (3, 4)), (dropped, 3, None),
                ([], 4, (1, 2)), ([], 1, None), ([SAME], 1, (0, 1)), ([ONE], 2, (1, 2)), (circle, 2, None),
                (falling, 3, (2, 3)), (falling, 2, None), ([(ANY, (2, 1, 0))], 2, (0, 2)),
                ([(ANY, ((), (), ()))], 2, (1, 2)), ([(ANY, (0, (), 2))], 2, (1, 2))):
            self.assertIsNone(check_list(found))
            self.assertEqual(repeats(found, most), expected, (found, most))
            self.assertEqual(repeats(found[::-1], most), expected)
        self.assertEqual(repeats(circle[:4], 3), None)
        self.assertEqual(repeats(circle[:3], 3), None)

    def test_the_least_n_and_for_it_the_least_m(self):
        r = random.Random(73)
        seen = {}
        for _ in range(400):
            commands = r.choice((1, 2, 2, 2, 4, 8))
            steps, most = models.random_script(r, commands), {1: 4, 2: 4, 4: 2, 8: 1}[commands]
            expected = first_pair(steps, most)
            self.assertEqual(repeats(steps, most), expected, steps)
            self.assertEqual(repeats(list_of(steps), most), expected, steps)
            seen[expected] = True
            for fewer in range(1, most):
                self.assertEqual(repeats(steps, fewer), expected if expected and expected[1] <= fewer else None)
        self.assertTrue({(0, 1), (1, 2), (2, 3), (1, 3), (0, 2), None} <= {*seen}, seen)

    def test_what_repeats_once_repeats_on(self):
        for steps in (("swap",), ("cut",), ("trade",), ("copy",)):
            m, n = repeats(steps, 4)
            for more in range(4):
                self.assertIsNone(alike(steps * (m + more), steps * (n + more)))

    def test_small_states_show_the_same(self):
        for steps in SCRIPTS:
            if models.commands_in(steps) > 2:
                continue
            pair = repeats(steps, 4)
            for state in STATES if pair else ():
                self.assertEqual(run(steps * pair[0], state), run(steps * pair[1], state))

    def test_wrong_counts(self):
        for wrong in samples.anything() + [5, -1, 10 ** 99, "1", (1,), [1], True, False, 0, None]:
            if wrong.__class__ is int and 1 <= wrong <= 4:
                continue
            for steps in ((), [SAME], ("swap",)):
                with self.assertRaises(InvalidCount) as caught:
                    repeats(steps, wrong)
                self.assertEqual(caught.exception.most, wrong)
                self.assertIs(caught.exception.most.__class__, wrong.__class__)

    def test_by_name(self):
        self.assertEqual(repeats(most=4, steps=("swap",)), (1, 3))


class ErrorsTest(RaisesCase):
    def test_steps_come_first(self):
        for wrong in WRONG_LISTS + WRONG_SCRIPTS + samples.anything():
            if problem_of(wrong) is None:
                continue
            error, fields = InvalidList if isinstance(wrong, list) else InvalidScript, {"problem": problem_of(wrong)}
            for other in ((), [], 5, [5], ("no",)):
                self.raises(error, fields, commute, wrong, other)
                self.raises(error, fields, repeats, wrong, other)
            for good in ((), [SAME], ("rise",)):
                self.raises(error, fields, commute, good, wrong)
            self.raises(error, fields, repeats, wrong, 4)


class LimitsTest(TimedCase):
    def test_eight_commands_together(self):
        r = random.Random(74)
        pairs = [(steps[:k], steps[k:]) for steps in EIGHT for k in (1, 5) if k < len(steps)]
        pairs += [(models.random_script(r, k), models.random_script(r, 8 - k)) for k in range(9) for _ in range(4)]
        for one, two in pairs:
            state = self.quickly(commute, one, two)
            self.assertEqual(state is None, alike(one + two, two + one) is None)
            self.assertEqual(state is None, self.quickly(commute, list_of(one), list_of(two)) is None)

    def test_a_script_of_four_commands_and_any_list(self):
        long = list_of(("rise",) * 8)
        self.assertIsNone(self.quickly(commute, long, ("rise",) * 4))
        self.assertIsNotNone(self.quickly(commute, ("up",) * 4, long))

    def test_done_most_times(self):
        for steps, most in [(steps, 1) for steps in EIGHT] + [(("rise", "up"), 4), (("rise",) * 4, 2)]:
            for thing in (steps, list_of(steps)):
                self.assertEqual(self.quickly(repeats, thing, most), None if steps != EIGHT[8] else first_pair(steps, most))
        eight = list_of(("up",) * 3)
        self.assertEqual([len(eight), self.quickly(repeats, eight, 2)], [8, None])
        r = random.Random(75)
        for _ in range(20):
            pattern = models.random_pattern(r, 12, ("a", "b", "c"), 3)
            kept = [models.same(pattern)]
            self.assertEqual(self.quickly(repeats, kept, 4), (1, 2))


class ArgumentsTest(unittest.TestCase):
    def test_arguments_stay_and_the_same_is_told_again(self):
        for steps in SCRIPTS[::3]:
            found = list_of(steps)
            kept = copy.deepcopy(found)
            first = [commute(found, ("rise",)), commute(("rise",), found), repeats(found, 1)]
            self.assertEqual(found, kept)
            self.assertEqual([commute(kept, ("rise",)), commute(("rise",), kept), repeats(kept, 1)], first)


if __name__ == "__main__":
    unittest.main()
