"""Parts of the package that the interface does not list, where small states show too little of them."""

import random
import unittest

import models
from cursorscripts.alike import alike
from cursorscripts.facts import facts_of, label_number, least_of, may_meet, new_labels, nodes_in, pattern_of, unknown_places
from cursorscripts.meeting import first_meeting, groups_of
from cursorscripts.patterns import fits, least_state, left_out, less, meet
from cursorscripts.sorting import least_unfit
from cursorscripts.trees import nodes_of
from models import ANY, PATTERNS, STATES, TREE, WAY


class FactsTest(unittest.TestCase):
    def test_facts_are_patterns(self):
        r = random.Random(61)
        for pattern in PATTERNS + [models.random_pattern(r, 12) for _ in range(50)]:
            facts = facts_of(pattern)
            self.assertEqual(pattern_of(facts), pattern)
            self.assertEqual(len(unknown_places(facts)), len(models.kinds(pattern)))
            self.assertEqual(nodes_of(least_of(facts)), nodes_in(facts))
            for other in PATTERNS[::5]:
                self.assertEqual(may_meet(facts, facts_of(other)), meet(pattern, other) is not None)

    def test_labels_are_unlike_each_other(self):
        labels = [label_number(number) for number in range(20000)]
        self.assertEqual(labels[:3] + labels[24:29] + labels[701:704],
                         ["a", "b", "c", "y", "z", "aa", "ab", "ac", "zz", "aaa", "aab"])
        self.assertEqual(len({*labels}), 20000)
        self.assertTrue(all(models.is_label(label) and len(label) < 9 for label in labels))
        self.assertEqual(new_labels(4, ("a", "c", "aa")), ["b", "d", "e", "f"])


class MeetingTest(unittest.TestCase):
    def first(self, many):
        found = [(k, j) for k, one in enumerate(many) for j, other in enumerate(many[:k]) if may_meet(one, other)]
        return min(found, default=None)

    def test_many_patterns(self):
        r = random.Random(62)
        base = [models.random_pattern(r, 12, ("a", "b", "c"), 2) for _ in range(20)]
        pieces = [[facts_of(part) for part in less(ANY, pattern)] for pattern in base]
        for parts in pieces:
            self.assertIsNone(first_meeting(parts))
        for _ in range(300):
            many = list(r.choice(pieces))
            for _ in range(r.randint(0, 3)):
                many.insert(r.randint(0, len(many)), facts_of(models.random_pattern(r, r.choice((0, 0, 1, 2, 12)))))
            if r.random() < 0.3:
                many.reverse()
            self.assertEqual(first_meeting(many), self.first(many))

    def test_groups(self):
        r = random.Random(63)
        for _ in range(100):
            many = [facts_of(models.random_pattern(r, r.choice((1, 2, 3)))) for _ in range(r.choice((5, 20, 40)))]
            groups = groups_of(many)
            for k, one in enumerate(many):
                for j in range(k):
                    if may_meet(one, many[j]):
                        self.assertTrue(any(j in group and k in group for group in groups))
            self.assertEqual([group for group in groups if group != sorted({*group})], [])

    def test_no_patterns(self):
        self.assertIsNone(first_meeting([]))
        self.assertIsNone(first_meeting([{}]))
        self.assertEqual(first_meeting([{}, {}]), (1, 0))


class SortingTest(unittest.TestCase):
    def test_all_parts_together_leave_nothing_out(self):
        r = random.Random(64)
        for _ in range(25):
            pattern = models.random_pattern(r, 8, ("a", "b", "c"), 3)
            parts = less(ANY, pattern) + [pattern]
            r.shuffle(parts)
            self.assertIsNone(left_out(parts))
            state = left_out(parts[1:])
            self.assertIsNotNone(fits(parts[0], state))
            self.assertEqual(nodes_of(state), nodes_of(least_state(parts[0])))
        self.assertEqual(least_unfit([]), {})


class PartingTest(unittest.TestCase):
    def test_labels_of_a_parting_state_are_not_barred(self):
        for barred in (("a",), ("b",), ("a", "b"), ("a", "b", "c"), ("b", "d")):
            pattern = ((barred, TREE, TREE), ("left", barred, TREE, WAY), TREE)
            kept, changed = (pattern, ((0, 1, 2), ("left", 3, 4, 5), 6)), (pattern, ((3, 1, 2), ("left", 0, 4, 5), 6))
            state = alike([kept], [changed])
            self.assertIsNotNone(fits(pattern, state))
            self.assertNotEqual(models.do(kept, state), models.do(changed, state))
        steps = tuple(("isnot", label) for label in "abcd")
        state = alike(steps + ("copy",), steps)
        self.assertNotIn(state[0][0], "abcd")

    def test_labels_of_a_parting_state_are_unlike_those_of_the_templates(self):
        pattern = (((), TREE, TREE), WAY, TREE)
        for label in "abc":
            for template in (((label, 1, 2), 3, 4), ((0, 1, 2), ("right", label, (), 3), 4)):
                other = ((0, 1, 2), 3, 4) if template[1] == 3 else ((0, 1, 2), ("right", 0, (), 3), 4)
                for one, two in ((template, other), (other, template)):
                    state = alike([(pattern, one)], [(pattern, two)])
                    self.assertEqual(nodes_of(state), 1)
                    self.assertNotEqual(models.do((pattern, one), state), models.do((pattern, two), state))

    def test_one_unknown_more_than_nothing(self):
        for number, template in enumerate((((), 1, 2), (0, (), 2), (0, 1, ()))):
            state = alike([(ANY, template)], [(ANY, (0, 1, 2))])
            self.assertEqual([nodes_of(state), nodes_of((state[0], (), ())) if number == 0 else 1], [1, 1])
            self.assertNotEqual(state[number], ())
        for state in STATES[::20]:
            self.assertIsNone(alike([(state, state)], [(state, state)]))


if __name__ == "__main__":
    unittest.main()
