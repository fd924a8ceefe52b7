"""cursorscripts.patterns: what fits, meets, and leaves out (points 1, 2, 5 and 6)."""

import copy
import random
import time
import unittest

import models
import samples
from cursorscripts.errors import InvalidFilling, InvalidPattern, InvalidState
from cursorscripts.patterns import check_pattern, filled, fits, least_state, left_out, less, meet, unknowns
from cursorscripts.trees import check_state, nodes_of
from models import ANY, PATTERNS, STATES, TREE, WAY

EIGHT = ("a", "b", "c", "d", "e", "f", "g", "h")
SMALLEST = sorted(STATES, key=nodes_of)
WRONG_PATTERNS = [None, True, 0, "", "focus", [TREE, WAY, TREE], (TREE, WAY), (TREE, WAY, TREE, TREE), (), TREE,
                  (WAY, WAY, TREE), (TREE, TREE, TREE), (TREE, WAY, WAY), (5, WAY, TREE), (TREE, "way", TREE),
                  ((("b", "a"), (), ()), (), ()), ((("a", "a"), (), ()), (), ()), (([], (), ()), (), ())]


def fitting(pattern):
    return [state for state in STATES if models.fit(pattern, state) is not None]


def spoiled(thing, wrong):
    """Thing with each of its parts in turn replaced by what is wrong, and with parts more and less."""
    yield wrong
    if isinstance(thing, tuple):
        for k, part in enumerate(thing):
            for other in spoiled(part, wrong):
                yield thing[:k] + (other,) + thing[k + 1:]
        yield list(thing)
        yield thing + (wrong,)
        yield thing[:-1]


class CheckPatternTest(unittest.TestCase):
    def test_patterns(self):
        for pattern in PATTERNS + STATES:
            self.assertIsNone(check_pattern(pattern))
        self.assertIsNone(check_pattern(thing=ANY))

    def test_problems(self):
        self.assertEqual(check_pattern([TREE, WAY, TREE]), ("form",))
        self.assertEqual(check_pattern((TREE, WAY)), ("form",))
        self.assertEqual(check_pattern((WAY, TREE, WAY)), ("focus",))
        self.assertEqual(check_pattern((TREE, TREE, WAY)), ("way",))
        self.assertEqual(check_pattern((TREE, WAY, WAY)), ("hand",))
        self.assertEqual(check_pattern((("tree", (), ()), ("way",), 5)), ("hand",))

    def test_label_patterns(self):
        good = ["a", "tree", (), ("a",), ("tree",), ("way",), ("a", "ab", "b"), EIGHT]
        wrong = ["", "A", ["a"], ("b", "a"), ("a", "a"), ("ab", "a"), ("a", "b", "b"), ("a", "b", "a"), ("A",), ("",),
                 ("a", 1), (1,), (None,), (True,), (("a",),), 0, True, None, {"a": 1}]
        for labels, expected in ((good, [None, None, None]), (wrong, [("focus",), ("way",), ("hand",)])):
            for label in labels:
                found = [check_pattern(((label, (), TREE), WAY, ())), check_pattern(((), ("left", label, (), ()), ())),
                         check_pattern(((), (), ("a", (label, (), ()), ())))]
                self.assertEqual(found, expected, label)

    def test_anything_by_words(self):
        for thing in samples.anything() + WRONG_PATTERNS:
            for pattern in (thing, (thing, WAY, TREE), (TREE, thing, TREE), (TREE, WAY, thing), (thing, thing, thing),
                            ((thing, (), ()), (), ()), (("a", thing, ()), (), ()), ((), (thing, "a", (), ()), ()),
                            ((), ("left", "a", thing, ()), ()), ((), ("left", "a", (), thing), ())):
                self.assertEqual(check_pattern(pattern), models.pattern_problem(pattern), pattern)

    def test_spoiled_patterns_by_words(self):
        base = ((("a", "b"), TREE, ("c", (), ())), ("left", (), TREE, ("right", "d", (), WAY)), TREE)
        for wrong in (None, True, 1, "", "a", "B", "left", (), [], TREE, WAY, ["tree"], ("a",), ("b", "a"), ("tree", "a"),
                      ("way", ()), ("a", (), ()), ("left", "a", (), ()), ("up", "a", (), ())):
            for thing in spoiled(base, wrong):
                self.assertEqual(check_pattern(thing), models.pattern_problem(thing), thing)


class UnknownsTest(unittest.TestCase):
    def test_by_words(self):
        for pattern in PATTERNS:
            self.assertEqual(unknowns(pattern), models.kinds(pattern))
        for state in STATES:
            self.assertEqual(unknowns(state), [])

    def test_example(self):
        self.assertEqual(unknowns(((TREE, (), TREE), ("right", "a", (), WAY), ())), ["label", "tree", "way"])
        self.assertEqual(unknowns(pattern=ANY), ["tree", "way", "tree"])
        pattern = (((), (), ()), ("left", ("b",), TREE, WAY), ())
        self.assertEqual(unknowns(pattern), ["label", "label", "tree", "way"])

    def test_lists_are_new(self):
        unknowns(ANY).append("more")
        self.assertEqual(unknowns(ANY), ["tree", "way", "tree"])


class FitsTest(unittest.TestCase):
    def test_by_words(self):
        for pattern in PATTERNS:
            for state in STATES:
                self.assertEqual(fits(pattern, state), models.fit(pattern, state), (pattern, state))

    def test_states_are_patterns_that_fit_themselves_alone(self):
        for state in STATES[::7]:
            for other in STATES:
                self.assertEqual(fits(state, other), () if state == other else None)

    def test_example(self):
        pattern = ((("a",), TREE, ()), WAY, TREE)
        state = (("b", ("c", (), ()), ()), ("left", "d", (), ()), ("e", (), ()))
        expected = ("b", ("c", (), ()), ("left", "d", (), ()), ("e", (), ()))
        self.assertEqual(fits(pattern, state), expected)
        self.assertEqual(fits(state=state, pattern=pattern), expected)
        self.assertIsNone(fits(pattern, (("a", ("c", (), ()), ()), (), ())))

    def test_ways_that_end_in_the_unknown(self):
        way = ("left", "a", (), ("right", "b", ("c", (), ()), ()))
        self.assertEqual(fits(((), WAY, ()), ((), way, ())), (way,))
        self.assertEqual(fits(((), ("left", (), (), WAY), ()), ((), way, ())), ("a", way[3]))
        deep = ((), ("left", (), (), ("right", (), TREE, WAY)), ())
        self.assertEqual(fits(deep, ((), way, ())), ("a", "b", ("c", (), ()), ()))
        self.assertIsNone(fits(((), ("left", (), (), ()), ()), ((), way, ())))

    def test_eight_barred_labels(self):
        for label in EIGHT + ("i", "ab"):
            state = ((label, (), ()), ("right", label, (), ()), ())
            expected = None if label in EIGHT else (label, label)
            self.assertEqual(fits(((EIGHT, (), ()), ("right", EIGHT, (), ()), ()), state), expected)

    def test_errors_in_their_order(self):
        for pattern in WRONG_PATTERNS:
            with self.assertRaises(InvalidPattern) as caught:
                fits(pattern, 5)
            self.assertEqual(caught.exception.thing, pattern)
        for state in samples.anything() + [ANY, (TREE, (), ()), ((("a",), (), ()), (), ()), ((), WAY, ())]:
            if check_state(state) is not None:
                with self.assertRaises(InvalidState) as caught:
                    fits(ANY, state)
                self.assertEqual(caught.exception.thing, state)


class FilledTest(unittest.TestCase):
    def test_it_makes_what_fits(self):
        for pattern in PATTERNS:
            for state in STATES:
                things = models.fit(pattern, state)
                if things is not None:
                    self.assertEqual(filled(pattern, things), state)

    def test_by_name(self):
        self.assertEqual(filled(pattern=(TREE, (), ("a", (), TREE)), things=((), ("b", (), ()))),
                         ((), (), ("a", (), ("b", (), ()))))
        self.assertEqual(filled(((), (), ()), ()), ((), (), ()))

    def test_wrong_things(self):
        pattern = ((("a", "c"), TREE, ()), WAY, ())
        good = ("b", ("a", (), ()), ("left", "a", (), ()))
        self.assertIsNone(check_state(filled(pattern, good)))
        wrong = [list(good), good[:2], good + ((),), (), None, 5, "abc", {"a": 1}, ("a",) + good[1:], ("c",) + good[1:],
                 ("", *good[1:]), (True, *good[1:]), (("b",), *good[1:]), ("b", "b", ()), ("b", TREE, ()),
                 ("b", ("left", "a", (), ()), ()), ("b", (), ("a", (), ())), ("b", (), WAY), ("b", (), []), ("b", 0, ()),
                 ("b", ((), (), ()), ()), ("b", (("x",), (), ()), ())] + samples.anything()
        for things in wrong:
            with self.assertRaises(InvalidFilling) as caught:
                filled(pattern, things)
            self.assertEqual(caught.exception.thing, things)
        for things in samples.anything():
            if things != ():
                with self.assertRaises(InvalidFilling):
                    filled(((), (), ()), things)

    def test_wrong_patterns_come_first(self):
        for pattern in WRONG_PATTERNS:
            with self.assertRaises(InvalidPattern) as caught:
                filled(pattern, 5)
            self.assertEqual(caught.exception.thing, pattern)


class MeetTest(unittest.TestCase):
    def test_all_states(self):
        found = {pattern: fitting(pattern) for pattern in PATTERNS}
        for pattern in PATTERNS:
            for other in PATTERNS[::5]:
                common = meet(pattern, other)
                expected = [state for state in found[pattern] if state in found[other]]
                self.assertEqual(meet(other, pattern), common)
                if common is None:
                    self.assertEqual(expected, [])
                    continue
                self.assertIsNone(check_pattern(common))
                self.assertEqual(fitting(common), expected)
                least = least_state(common)
                self.assertTrue(fits(pattern, least) is not None and fits(other, least) is not None)

    def test_with_itself_and_with_states(self):
        for pattern in PATTERNS:
            self.assertEqual(meet(pattern, pattern), pattern)
            self.assertEqual(meet(pattern, ANY), pattern)
            for state in STATES[::11]:
                expected = None if models.fit(pattern, state) is None else state
                self.assertEqual(meet(pattern, state), expected)
                self.assertEqual(meet(state, pattern), expected)

    def test_labels(self):
        def with_label(label):
            return ((label, (), ()), (), ())
        cases = [("a", "a", "a"), ("a", "b", None), ("a", (), "a"), ("a", ("b",), "a"), ("a", ("a", "b"), None),
                 ((), (), ()), (("b",), ("a", "c"), ("a", "b", "c")), (("a", "b"), ("b", "c"), ("a", "b", "c"))]
        for one, other, expected in cases:
            common = None if expected is None else with_label(expected)
            self.assertEqual(meet(with_label(one), with_label(other)), common)
            self.assertEqual(meet(pattern=with_label(other), other=with_label(one)), common)

    def test_example(self):
        self.assertEqual(meet(((("a",), TREE, TREE), WAY, ()), (TREE, ("left", "x", (), WAY), TREE)),
                         ((("a",), TREE, TREE), ("left", "x", (), WAY), ()))

    def test_errors_in_their_order(self):
        for wrong in WRONG_PATTERNS:
            for call in (meet, less):
                with self.assertRaises(InvalidPattern) as caught:
                    call(wrong, "other")
                self.assertEqual(caught.exception.thing, wrong)
                with self.assertRaises(InvalidPattern) as caught:
                    call(ANY, wrong)
                self.assertEqual(caught.exception.thing, wrong)


class LessTest(unittest.TestCase):
    def check(self, pattern, other):
        rest = less(pattern, other)
        self.assertIsInstance(rest, list)
        for number, part in enumerate(rest):
            self.assertIsNone(check_pattern(part))
            self.assertEqual(meet(part, pattern), part)
            self.assertIsNone(meet(part, other))
            for before in rest[:number]:
                self.assertIsNone(meet(part, before))
        return rest

    def test_all_states(self):
        found = {pattern: fitting(pattern) for pattern in PATTERNS}
        for pattern in PATTERNS[::3]:
            for other in PATTERNS[::5]:
                rest = self.check(pattern, other)
                expected = [state for state in found[pattern] if state not in found[other]]
                self.assertEqual([s for s in STATES if any(models.fit(part, s) is not None for part in rest)], expected)

    def test_ends(self):
        for pattern in PATTERNS:
            self.assertEqual(less(pattern, pattern), [])
            self.assertEqual(less(pattern, ANY), [])
            for other in PATTERNS[::7]:
                if meet(pattern, other) is None:
                    self.assertEqual(less(pattern, other), [pattern])

    def test_eight_barred_labels(self):
        rest = self.check(((("i",), (), ()), (), ()), ((EIGHT, (), ()), (), ()))
        for label in EIGHT + ("i", "j"):
            fit = [part for part in rest if fits(part, ((label, (), ()), (), ())) is not None]
            self.assertEqual(len(fit), 1 if label in EIGHT else 0)

    def test_random_patterns(self):
        r = random.Random(6)
        for _ in range(150):
            pattern, other = models.random_pattern(r, r.randint(0, 4)), models.random_pattern(r, r.randint(0, 4))
            rest = self.check(pattern, other)
            for state in STATES:
                expected = models.fit(pattern, state) is not None and models.fit(other, state) is None
                self.assertEqual(sum(models.fit(part, state) is not None for part in rest), int(expected))

    def test_lists_are_new(self):
        for pattern, other in ((ANY, ((), (), ())), (ANY, ANY), (((), (), ()), (("a", (), ()), (), ()))):
            first = less(pattern, other)
            expected = list(first)
            first.append(5)
            self.assertEqual(less(pattern=pattern, other=other), expected)


class LeastStateTest(unittest.TestCase):
    def test_all_states(self):
        for pattern in PATTERNS:
            least = least_state(pattern)
            self.assertIsNotNone(models.fit(pattern, least))
            found = [nodes_of(state) for state in fitting(pattern)]
            self.assertTrue(not found or nodes_of(least) <= min(found))
        for state in STATES:
            self.assertEqual(least_state(state), state)

    def test_barred_labels(self):
        labels = tuple("abcdefghijklmnopqrstuvwxyz")
        for barred in ((), ("a",), EIGHT, labels, tuple(sorted(labels + ("aa", "ab")))):
            state = least_state(pattern=((barred, (), ()), ("left", barred, TREE, WAY), TREE))
            self.assertEqual(nodes_of(state), 2)
            self.assertNotIn(state[0][0], barred)
            self.assertNotIn(state[1][1], barred)

    def test_wrong_patterns(self):
        for wrong in WRONG_PATTERNS + samples.anything():
            if check_pattern(wrong) is not None:
                for call in (least_state, unknowns):
                    with self.assertRaises(InvalidPattern) as caught:
                        call(wrong)
                    self.assertEqual(caught.exception.thing, wrong)


class LeftOutTest(unittest.TestCase):
    def rest_of(self, patterns):
        """What fits none of the patterns, by taking one after the other away."""
        rest = [ANY]
        for pattern in patterns:
            rest = [part for known in rest for part in less(known, pattern)]
        return rest

    def check(self, patterns):
        state = left_out(patterns)
        rest = self.rest_of(patterns)
        if state is None:
            self.assertEqual(rest, [])
        else:
            self.assertEqual([pattern for pattern in patterns if models.fit(pattern, state) is not None], [])
            self.assertEqual(nodes_of(state), min(nodes_of(least_state(part)) for part in rest))

    def test_one_and_two_patterns(self):
        self.assertEqual(left_out([]), ((), (), ()))
        self.assertEqual(left_out(()), ((), (), ()))
        for pattern in PATTERNS:
            self.check([pattern])
            self.check((pattern, PATTERNS[12]))

    def test_all_but_a_few(self):
        for pattern in PATTERNS[1::4]:
            rest = less(ANY, pattern)
            self.check(rest)
            self.check([pattern] + rest)
            self.check(rest[:1] + [pattern] + rest)
            for number in range(len(rest)):
                self.check([pattern] + rest[:number] + rest[number + 1:])

    def test_random_patterns_brute_force(self):
        r = random.Random(9)
        for _ in range(120):
            patterns = [models.random_pattern(r, r.choice((0, 0, 0, 1, 1, 2))) for _ in range(3)]
            self.check(patterns)
            state = left_out(patterns)
            bad = [s for s in SMALLEST if all(models.fit(pattern, s) is None for pattern in patterns)]
            if bad:
                self.assertLessEqual(nodes_of(state), nodes_of(bad[0]))

    def test_examples(self):
        self.assertIsNone(left_out([ANY]))
        self.assertEqual(nodes_of(left_out(patterns=[((), WAY, TREE)])), 1)

    def test_wrong_patterns(self):
        for wrong in WRONG_PATTERNS:
            if wrong != ():
                with self.assertRaises(InvalidPattern) as caught:
                    left_out([ANY, wrong, 5])
                self.assertEqual(caught.exception.thing, wrong)
        for wrong in (None, 5, True, "patterns", {}, {"a": ANY}):
            with self.assertRaises(InvalidPattern) as caught:
                left_out(wrong)
            self.assertEqual(caught.exception.thing, wrong)
        with self.assertRaises(InvalidPattern) as caught:
            left_out(ANY)
        self.assertEqual(caught.exception.thing, TREE)


class LimitsTest(unittest.TestCase):
    def quickly(self, call, *arguments):
        begin = time.monotonic()
        answer = call(*arguments)
        self.assertLess(time.monotonic() - begin, 4)
        return answer

    def test_patterns_of_forty_nodes_and_states_of_sixty(self):
        r = random.Random(40)
        for _ in range(10):
            pattern = models.random_pattern(r, 40, EIGHT, 8)
            other = models.random_pattern(r, 40, EIGHT, 8)
            self.assertIsNone(check_pattern(pattern))
            self.assertEqual(nodes_of(self.quickly(least_state, pattern)), 40)
            self.assertEqual(self.quickly(meet, pattern, pattern), pattern)
            self.assertEqual(self.quickly(less, pattern, other) == [pattern], meet(pattern, other) is None)
            for part in self.quickly(less, ANY, pattern):
                self.assertIsNone(meet(part, pattern))
            self.assertEqual(models.kinds(pattern), unknowns(pattern))
        state = (samples.chain(20, ("left", "right")), samples.long_way(20, ("right",)), samples.chain(20, ("right",)))
        self.assertEqual(self.quickly(fits, ANY, state), state)
        self.assertEqual(fits(state, state), ())

    def test_left_out_of_three_patterns_of_twelve_nodes(self):
        r = random.Random(12)
        for labels, barred in ((("a",), 0), (("a", "b"), 2), (EIGHT, 8)):
            for _ in range(30):
                patterns = [models.random_pattern(r, 12, labels, barred) for _ in range(3)]
                state = self.quickly(left_out, patterns)
                self.assertEqual(nodes_of(state), 0)
        deep = ((), TREE, TREE)
        for _ in range(10):
            deep = (EIGHT, deep, ())
        patterns = [((), WAY, TREE), (deep, WAY, TREE), ((EIGHT, (), TREE), ("left", "a", TREE, WAY), TREE)]
        state = self.quickly(left_out, patterns)
        self.assertEqual([nodes_of(state)] + [fits(pattern, state) for pattern in patterns], [1, None, None, None])

    def test_returned_patterns_are_taken_whatever_their_size(self):
        for many in (50, 200):
            way = WAY
            for _ in range(many):
                way = ("left", (), TREE, way)
            tree = TREE
            for _ in range(many):
                tree = ((), TREE, tree)
            pattern = meet((TREE, way, TREE), (tree, WAY, TREE))
            self.assertEqual(nodes_of(least_state(pattern)), 2 * many)
            self.assertIsNotNone(fits(pattern, least_state(pattern)))
            self.assertEqual(len(less(ANY, pattern)), many + 2 * many)


class ArgumentsTest(unittest.TestCase):
    def test_nothing_is_changed_and_the_same_is_told_again(self):
        patterns = [list(PATTERNS[::9]), tuple(PATTERNS[::20]), []]
        for passed in patterns:
            kept = copy.deepcopy(passed)
            self.assertEqual(left_out(passed), left_out(copy.deepcopy(passed)))
            self.assertEqual(passed, kept)
        for pattern in PATTERNS[::6]:
            for other in PATTERNS[::10]:
                self.assertEqual(less(pattern, other), less(copy.deepcopy(pattern), copy.deepcopy(other)))
                self.assertEqual(meet(pattern, other), meet(copy.deepcopy(pattern), copy.deepcopy(other)))
            self.assertEqual(least_state(pattern), least_state(copy.deepcopy(pattern)))


if __name__ == "__main__":
    unittest.main()
