"""cursorscripts.likeness: scripts that are alike but for something (points 1, 2 and 20)."""

import copy
import random
import unittest

import models
import samples
from checks import RaisesCase, TimedCase, problem_of
from cursorscripts.alike import alike, within
from cursorscripts.errors import InvalidLikeness, InvalidList, InvalidScript
from cursorscripts.likeness import alike_in, within_in
from cursorscripts.lists import list_of
from cursorscripts.trees import nodes_of
from models import ANY, TREE, WAY
from test_alike import WRONG_LISTS, WRONG_SCRIPTS, AlikeCase, made_by, made_of
from test_lists import EIGHT, ONE, SAME, SCRIPTS

LIKENESSES = ("state", "tree and hand", "tree", "works")


def whole_tree(state):
    """The whole tree of a state, another time than in the package."""
    tree, way, _ = state
    while way != ():
        side, label, other, way = way
        tree = (label, tree, other) if side == "left" else (label, other, tree)
    return tree


def have(likeness, one, other):
    """Whether two states have a likeness, point 20 word by word."""
    if likeness == "state":
        return one == other
    if likeness == "tree and hand":
        return whole_tree(one) == whole_tree(other) and one[2] == other[2]
    return likeness == "works" or whole_tree(one) == whole_tree(other)


def alike_here(likeness, one, other):
    """Whether two results, None for failing, are as they have to be for scripts that are alike."""
    if one is None or other is None:
        return one is None and other is None
    return have(likeness, one, other)


def within_here(likeness, one, other):
    return one is None or (other is not None and have(likeness, one, other))


class LikenessTest(AlikeCase):
    def check(self, steps, other, made, made_other):
        """What is told of two in all likenesses, as a list of whether they are alike in it."""
        told = []
        for likeness in LIKENESSES:
            for call, good in ((alike_in, alike_here), (within_in, within_here)):
                found = call(likeness, steps, other)
                self.least(found, [not good(likeness, a, b) for a, b in zip(made, made_other)],
                           lambda s: not good(likeness, made_of(steps, s), made_of(other, s)))
                told.append(found is None)
        # Where two are alike in one likeness, they are in each that asks for less.
        self.assertEqual(told[::2], sorted(told[::2]))
        self.assertEqual(told[1::2], sorted(told[1::2]))
        return told[::2]

    def test_scripts(self):
        made = {steps: made_by(steps) for steps in SCRIPTS}
        for steps in SCRIPTS:
            for other in SCRIPTS[::2]:
                self.check(steps, other, made[steps], made[other])

    def test_random_scripts(self):
        r = random.Random(111)
        for _ in range(150):
            steps, other = models.random_script(r, r.randint(0, 5)), models.random_script(r, r.randint(0, 5))
            for one, two in ((steps, other), (steps, steps + ("copy",)), (steps, steps + (("else", ("up",), ()),)),
                             (steps + ("left",), steps + ("full",)), (steps + (("else", ("left",), ()),), steps)):
                self.check(one, two, made_by(one), made_by(two))

    def test_scripts_that_move(self):
        r = random.Random(112)
        words = ("left", "right", "up", "up", "rise", "swap", "copy", "trade", "cut", ("else", ("up",), ()), ("else", ("left",), ()),
                 "top", "inleft")
        for _ in range(200):
            steps = tuple(r.choice(words) for _ in range(r.randint(0, 4)))
            other = tuple(r.choice(words) for _ in range(r.randint(0, 4)))
            self.check(steps, r.choice((other, list_of(other))), made_by(steps), made_by(other))

    def test_lists(self):
        lists = [[item] for item in models.REWRITINGS] + [[], [SAME], [ONE]]
        lists += [[(ANY, (0, (), 2))], [(ANY, ((), 1, 2))], [((TREE, WAY, ()), (0, (), ()))],
                  [((TREE, ("left", (), TREE, WAY), TREE), ((1, 0, 2), (), 4))],
                  [((TREE, ("left", (), TREE, WAY), TREE), (0, ("left", 1, 2, ()), 4))]]
        made = [made_by(found) for found in lists]
        for one, made_one in zip(lists, made):
            for two, made_two in zip(lists, made):
                self.check(one, two, made_one, made_two)

    def test_alike_in_one_and_not_in_another(self):
        for steps, other, expected in (
                (("left",), ("full",), [False, True, True, True]), (("left",), ("right",), [False, True, True, True]),
                (("copy",), (), [False, False, True, True]), (("swap",), ("full",), [False, False, False, True]),
                (("swap",), ("left",), [False, False, False, True]), (("left",), (), [False] * 4),
                (("swap", "swap"), ("full",), [True] * 4), (("left", "up"), ("right",), [False, True, True, True]),
                (("copy", "clear"), ("cut",), [True] * 4), (("clear",), ("cut",), [False, False, True, True]),
                (("left", "right", "copy"), ("left", "right"), [False, False, True, True]),
                ((("else", ("up",), ()),), (), [False, True, True, True]), (("up",), ("inner",), [False, True, True, True]),
                (("top",), ("inner",), [False] * 4), ((("not", ()),), ("top", "up"), [True] * 4),
                (("up", "cut"), ("inner",), [False, False, False, True]), (("paste",), ("trade",), [False, False, True, True])):
            self.assertEqual(self.check(steps, other, made_by(steps), made_by(other)), expected, (steps, other))
            self.assertEqual(self.check(list_of(other), steps, made_by(other), made_by(steps)), expected)

    def test_trees_where_the_way_is_unknown_or_at_its_end(self):
        cut_off = [(ANY, (0, (), 2))]
        # At the root there is no difference; one place up there is.
        self.assertEqual(nodes_of(alike_in("tree", cut_off, ())), 1)
        self.assertIsNone(alike_in("tree", cut_off, [(ANY, (0, (), 0))]))
        self.assertIsNone(within_in("tree and hand", ("top",), cut_off))
        self.assertIsNone(alike_in("state", ("top",), [((TREE, (), TREE), (0, (), 1))]))
        self.assertEqual(nodes_of(within_in("tree", (("else", ("left",), ()),), cut_off)), 1)
        folded = [((TREE, ("left", (), TREE, WAY), TREE), ((1, 0, 2), (), 4))]
        kept = [((TREE, ("left", (), TREE, WAY), TREE), (0, ("left", 1, 2, ()), 4))]
        self.assertEqual([alike_in(likeness, folded, kept) is None for likeness in LIKENESSES], [False, True, True, True])
        self.assertEqual(nodes_of(alike_in("tree", folded, ("inleft",))), 2)

    def test_the_likeness_of_states_is_that_of_alike_and_within(self):
        for steps in SCRIPTS:
            for other in SCRIPTS[::3]:
                for call, expected in ((alike_in, alike(steps, other)), (within_in, within(steps, other))):
                    found = call("state", steps, other)
                    self.assertEqual(found is None, expected is None)
                    if found is not None:
                        self.assertEqual(nodes_of(found), nodes_of(expected))

    def test_examples(self):
        self.assertEqual([alike_in("tree", ("copy",), ()), within_in("tree and hand", ("left",), ())], [None, None])
        self.assertEqual((alike_in("works", ("swap",), ("full",)) is None, alike_in("tree", ("swap",), ("full",)) is None),
                         (True, False))
        with self.assertRaises(InvalidLikeness) as caught:
            alike_in("same", 5, ())
        self.assertEqual(caught.exception.likeness, "same")

    def test_by_name(self):
        self.assertIsNone(alike_in(other=("right",), steps=("left",), likeness="tree"))
        self.assertIsNone(within_in(likeness="works", steps=("left",), other=()))


class ErrorsTest(RaisesCase):
    def test_the_likeness_comes_first(self):
        for wrong in samples.anything() + ["same", "State", "tree and hand ", "trees", "tree,hand", ["state"], ("state",),
                                           {"state": "state"}, "works\n", "hand", True, 0]:
            for call in (alike_in, within_in):
                for steps, other in (((), ()), (5, 5), ([ONE, ONE], ()), ((), ("no",))):
                    with self.assertRaises(InvalidLikeness) as caught:
                        call(wrong, steps, other)
                    self.assertEqual(caught.exception.likeness, wrong)
                    self.assertIs(caught.exception.likeness.__class__, wrong.__class__)

    def test_steps_come_ahead_of_other(self):
        for wrong in WRONG_LISTS + WRONG_SCRIPTS + samples.anything():
            if problem_of(wrong) is None:
                continue
            error, fields = InvalidList if isinstance(wrong, list) else InvalidScript, {"problem": problem_of(wrong)}
            for likeness in LIKENESSES:
                for call in (alike_in, within_in):
                    for other in ((), [], 5, [5], ("no",)):
                        self.raises(error, fields, call, likeness, wrong, other)
                    for good in ((), [], [SAME], ("rise",)):
                        self.raises(error, fields, call, likeness, good, wrong)


class LimitsTest(TimedCase):
    def test_eight_commands(self):
        r = random.Random(113)
        scripts = EIGHT + [models.random_script(r, 8) for _ in range(6)]
        for steps in scripts:
            for other in [r.choice(scripts), steps]:
                for likeness in LIKENESSES:
                    state = self.quickly(alike_in, likeness, steps, other)
                    self.assertTrue(state is None or not alike_here(likeness, made_of(steps, state), made_of(other, state)))
                    state = self.quickly(within_in, likeness, steps, other)
                    self.assertTrue(state is None or not within_here(likeness, made_of(steps, state), made_of(other, state)))
            self.assertIsNone(self.quickly(alike_in, "tree", steps, list_of(steps)[::-1]))
        # Eight commands that only move.
        self.assertIsNone(alike_in("tree and hand", ("up",) * 8, ("inner",) + ("up",) * 8))
        self.assertIsNone(within_in("tree and hand", ("up",) * 8, ()))


class ArgumentsTest(unittest.TestCase):
    def test_arguments_stay_and_the_same_is_told_again(self):
        for steps in SCRIPTS[::2]:
            found = list_of(steps)
            kept = copy.deepcopy(found)
            for likeness in LIKENESSES:
                first = [alike_in(likeness, found, ("left",)), within_in(likeness, found, ("copy",))]
                self.assertEqual(found, kept)
                self.assertEqual([alike_in(likeness, kept, ("left",)), within_in(likeness, kept, ("copy",))], first)


if __name__ == "__main__":
    unittest.main()
