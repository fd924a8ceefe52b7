"""cursorscripts.counting: how many states there are, fit, or are worked for (points 1, 2 and 18)."""

import math
import random
import time
import unittest

import models
import samples
from cursorscripts.commands import check_script, run
from cursorscripts.counting import count_fits, count_states, count_works
from cursorscripts.errors import InvalidCount, InvalidLabels, InvalidList, InvalidPattern, InvalidScript
from cursorscripts.lists import check_list, list_of
from cursorscripts.patterns import check_pattern, less
from models import ANY, PATTERNS, TREE, WAY
from test_lists import EIGHT, ONE, SAME, SCRIPTS

LABELS = [(), ("a",), ("b", "c"), ("a", "b", "q")]
LETTERS = tuple("abcdefgh")
WRONG_COUNTS = [True, False, -1, 201, 10 ** 99, -10 ** 99, None, "5", (5,), [5], {}, {"a": 5}]
WRONG_LABELS = [None, 5, True, "ab", "a", ["a"], [], ("b", "a"), ("a", "a"), ("a", "b", "b"), ("",), ("A",), ("a", 1), (1,),
                (None,), (("a",),), ("a", True), {}, {"a": 1}]


def states(nodes, labels):
    return samples.states(nodes, labels)


class CountStatesTest(unittest.TestCase):
    def test_all_small_states(self):
        for nodes in range(4):
            for labels in LABELS[:3] if nodes == 3 else LABELS:
                self.assertEqual(count_states(nodes, labels), len(states(nodes, labels)))

    def test_by_words(self):
        for nodes in (0, 1, 2, 7, 60, 199, 200):
            for labels in LABELS + [LETTERS]:
                expected = math.comb(2 * nodes + 2, nodes) * len(labels) ** nodes
                self.assertEqual(count_states(nodes, labels), expected)
        self.assertEqual([count_states(0, ()), count_states(1, ())], [1, 0])
        self.assertEqual([count_states(2, ("a",)), count_states(labels=("a", "b"), nodes=2)], [15, 60])

    def test_errors_in_their_order(self):
        for wrong in WRONG_COUNTS:
            for labels in (("a",), 5):
                with self.assertRaises(InvalidCount) as caught:
                    count_states(wrong, labels)
                self.assertEqual([caught.exception.most, caught.exception.most.__class__], [wrong, wrong.__class__])
        for wrong in WRONG_LABELS:
            with self.assertRaises(InvalidLabels) as caught:
                count_states(2, wrong)
            self.assertEqual(caught.exception.thing, wrong)
        for thing in samples.anything():
            if not isinstance(thing, int) or isinstance(thing, bool) or not 0 <= thing <= 200:
                with self.assertRaises(InvalidCount):
                    count_states(thing, ("a",))
            if thing != ("a",):
                with self.assertRaises(InvalidLabels):
                    count_states(0, thing)


class CountFitsTest(unittest.TestCase):
    def test_all_small_states(self):
        for nodes in range(4):
            for labels in ((), ("a",), ("a", "b", "q")) if nodes < 3 else (("a",), ("q",)):
                found = states(nodes, labels)
                for pattern in PATTERNS:
                    expected = sum(models.fit(pattern, state) is not None for state in found)
                    self.assertEqual(count_fits(pattern, nodes, labels), expected, (pattern, nodes, labels))

    def test_random_patterns(self):
        r = random.Random(41)
        found = {(nodes, labels): states(nodes, labels) for nodes in range(4) for labels in (("a", "b"), ("b", "c"))}
        for _ in range(150):
            pattern = models.random_pattern(r, r.randint(0, 3))
            for (nodes, labels), small in found.items():
                expected = sum(models.fit(pattern, state) is not None for state in small)
                self.assertEqual(count_fits(pattern, nodes, labels), expected)

    def test_states_as_patterns(self):
        for nodes in range(4):
            for state in states(nodes, ("a", "b"))[::7]:
                for many in range(5):
                    self.assertEqual(count_fits(state, many, ("a", "b", "c")), int(many == nodes))

    def test_labels_not_among_those_counted_with(self):
        self.assertEqual(count_fits((("x", TREE, TREE), WAY, TREE), 5, ("a", "b")), 0)
        self.assertEqual(count_fits((TREE, ("left", "x", TREE, WAY), TREE), 5, ("a", "b")), 0)
        self.assertEqual(count_fits(((("x", "y"), (), ()), (), ()), 1, ("a", "b")), 2)
        self.assertEqual(count_fits(((("a", "b", "x"), (), ()), (), ()), 1, ("a", "b")), 0)
        self.assertEqual(count_fits((((), (), ()), (), ()), 1, ()), 0)
        self.assertEqual(count_fits(nodes=0, labels=(), pattern=((), WAY, ())), 1)

    def test_all_patterns_together_are_all_states(self):
        for pattern in PATTERNS[::7] + [models.random_pattern(random.Random(k), 12, LETTERS, 8) for k in range(20)]:
            parts = [pattern] + less(ANY, pattern)
            for nodes, labels in ((0, ("a",)), (13, ("a", "b")), (40, LETTERS), (200, LETTERS)):
                self.assertEqual(sum(count_fits(part, nodes, labels) for part in parts), count_states(nodes, labels))

    def test_errors_in_their_order(self):
        for wrong in samples.anything() + [(TREE, WAY), (WAY, WAY, TREE)]:
            if check_pattern(wrong) is not None:
                with self.assertRaises(InvalidPattern) as caught:
                    count_fits(wrong, -1, 5)
                self.assertEqual(caught.exception.thing, wrong)
        for wrong in WRONG_COUNTS:
            with self.assertRaises(InvalidCount) as caught:
                count_fits(ANY, wrong, 5)
            self.assertEqual(caught.exception.most, wrong)
        for wrong in WRONG_LABELS:
            with self.assertRaises(InvalidLabels) as caught:
                count_fits(ANY, 1, wrong)
            self.assertEqual(caught.exception.thing, wrong)


class CountWorksTest(unittest.TestCase):
    def test_all_small_states(self):
        for nodes, labels in ((0, ()), (1, ("a", "b")), (2, ("a", "x")), (2, ("q",)), (3, ("a",)), (1, ())):
            found = states(nodes, labels)
            for steps in SCRIPTS:
                expected = sum(run(steps, state) is not None for state in found)
                self.assertEqual(count_works(steps, nodes, labels), expected, (steps, nodes, labels))
                self.assertEqual(count_works(list_of(steps), nodes, labels), expected)
        self.assertEqual(count_works(("left",), 1, ("a",)), 1)
        self.assertEqual(count_works(labels=("a",), nodes=3, steps=()), count_states(3, ("a",)))

    def test_random_scripts(self):
        r = random.Random(42)
        found = {(nodes, labels): states(nodes, labels) for nodes in range(3) for labels in (("a", "b"), ("c",))}
        for _ in range(150):
            steps = models.random_script(r, r.randint(0, 6))
            for (nodes, labels), small in found.items():
                self.assertEqual(count_works(steps, nodes, labels), sum(run(steps, state) is not None for state in small))

    def test_two_hundred_nodes_quickly(self):
        for steps in EIGHT:
            fails = (("not", steps),)
            begin = time.monotonic()
            found = count_works(steps, 200, LETTERS), count_works(fails, 200, LETTERS)
            self.assertLess(time.monotonic() - begin, 5)
            self.assertEqual(sum(found), count_states(200, LETTERS))

    def test_empty_list_and_script(self):
        self.assertEqual([count_works([], nodes, ("a",)) for nodes in range(4)], [0, 0, 0, 0])
        self.assertEqual([count_works((), nodes, ("a",)) for nodes in range(4)], [1, 4, 15, 56])
        self.assertEqual(count_works([ONE], 0, ()), 1)

    def test_errors_in_their_order(self):
        for wrong in samples.anything() + [[5], [SAME, ONE], ("no",), [ONE, ONE], (("not", "up"),)]:
            problem = check_list(wrong) if isinstance(wrong, list) else check_script(wrong)
            if problem is not None:
                with self.assertRaises(InvalidList if isinstance(wrong, list) else InvalidScript) as caught:
                    count_works(wrong, -1, 5)
                self.assertEqual(caught.exception.problem, problem)
        for steps in ((), [], ("left",)):
            for wrong in WRONG_COUNTS:
                with self.assertRaises(InvalidCount) as caught:
                    count_works(steps, wrong, 5)
                self.assertEqual(caught.exception.most, wrong)
            for wrong in WRONG_LABELS:
                with self.assertRaises(InvalidLabels) as caught:
                    count_works(steps, 1, wrong)
                self.assertEqual(caught.exception.thing, wrong)


if __name__ == "__main__":
    unittest.main()
