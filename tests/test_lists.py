"""cursorscripts.lists: scripts as lists, and lists after one another (points 1, 2, 4 and 8)."""

import copy
import random
import time
import unittest

import models
import samples
from cursorscripts.commands import check_script, run
from cursorscripts.errors import InvalidList, InvalidScript, InvalidState
from cursorscripts.lists import both, check_list, done_by, either, list_of
from cursorscripts.patterns import less, meet
from cursorscripts.rewritings import check_rewriting, rewritings_of
from cursorscripts.trees import check_state
from models import ANY, STATES, TREE, WAY

ONE = (((), (), ()), ((), (), ()))
SAME = (ANY, (0, 1, 2))
SCRIPTS = [
    (), ("left",), ("rise",), ("up", "up"), ("left", ("set", "x"), "up"), (("else", ("left",), (("put", "a"),)),),
    (("not", ("left",)),), (("not", ()),), (("not", (("not", ("rise",)),)),), ("top", "up"), ("clear", "full"),
    (("else", ("rise",), ("copy",)), "full"), (("is", "a"), ("isnot", "a")), (("isnot", "a"), ("isnot", "b"), "copy"),
    (("else", (("is", "a"), "left"), (("else", (("is", "b"), "right"), ("up",)),)),), ("copy", "left", "paste", "up"),
    (("not", (("is", "a"),)), ("not", (("is", "b"),)), "trade"), ("trade", "left", "trade"), ("cut", "up", "paste"),
    (("else", (), ("up",)), "rise"), (("not", (("else", ("up",), ("left",)),)), ("wrapleft", "a")),
    (("put", "a"), ("is", "a"), ("set", "b"), ("isnot", "b")), (("wrapright", "a"), "right", "up", ("is", "a")),
]
EIGHT = [
    ("rise",) * 8, ("up",) * 8, ("left",) * 8, (("not", ("rise",) * 7),), (("else", ("up",) * 4, ("rise",) * 3),),
    ("rise", "up", "rise", "rise", "rise", "rise", "up", "rise"), (("else", ("rise",), ()),) * 4,
    (("else", (("isnot", "c"),), ()), "up", ("else", ("rise", "up", "rise", "inner"), ())),
    ("copy", "left", "paste", "up", "copy", "left", "paste", "up"),
    (("else", (("is", "a"),), ("up",)),) * 2 + ("up", "rise"),
]


def fitting(rewritings, state):
    return [number for number, item in enumerate(rewritings) if models.fit(item[0], state) is not None]


class ListOfTest(unittest.TestCase):
    def check(self, steps, states):
        found = list_of(steps)
        self.assertIsInstance(found, list)
        self.assertIsNone(check_list(found))
        for state in states:
            self.assertLessEqual(len(fitting(found, state)), 1)
            self.assertEqual(models.do_list(found, state), run(steps, state), (steps, state))
        return found

    def test_for_all_small_states(self):
        for steps in SCRIPTS:
            self.check(steps, STATES)

    def test_random_scripts(self):
        r = random.Random(1)
        for _ in range(250):
            self.check(models.random_script(r, r.randint(1, 6)), STATES[::2])

    def test_no_state_fits_two_of_its_patterns(self):
        for steps in SCRIPTS + EIGHT[4:]:
            found = list_of(steps)
            for number, (pattern, _) in enumerate(found):
                for other, _ in found[:number]:
                    self.assertIsNone(meet(pattern, other))

    def test_ends(self):
        self.assertEqual(list_of(()), [SAME])
        self.assertEqual(list_of((("not", ()),)), [])
        self.assertEqual(list_of(("top", "up")), [])
        self.assertEqual(list_of(steps=("left",)), rewritings_of("left"))

    def test_eight_commands_quickly(self):
        r = random.Random(8)
        states = [(samples.chain(4, ("left", "right")), samples.long_way(many, ("left", "right")), ()) for many in range(9)]
        for steps in EIGHT + [models.random_script(r, 8) for _ in range(60)]:
            self.assertLessEqual(models.commands_in(steps), 8)
            begin = time.monotonic()
            self.check(steps, states)
            self.assertLess(time.monotonic() - begin, 4)

    def test_lists_are_new(self):
        for steps in SCRIPTS:
            expected = list_of(steps)
            changed = list_of(steps)
            changed.append(5)
            self.assertEqual(list_of(copy.deepcopy(steps)), expected)

    def test_wrong_scripts(self):
        for thing in samples.anything() + [["left"], ("left", "no"), (("not", ("up", ("put", "A"))),)]:
            problem = check_script(thing)
            if problem is not None:
                with self.assertRaises(InvalidScript) as caught:
                    list_of(thing)
                self.assertEqual(caught.exception.problem, problem)


class CheckListTest(unittest.TestCase):
    def test_lists(self):
        self.assertIsNone(check_list([]))
        self.assertIsNone(check_list([SAME]))
        self.assertIsNone(check_list(thing=[ONE]))
        for steps in SCRIPTS:
            self.assertIsNone(check_list(list_of(steps)))

    def test_form(self):
        for thing in samples.anything() + [(), (SAME,), tuple(list_of(("rise",))), SAME]:
            if not isinstance(thing, list):
                self.assertEqual(check_list(thing), ("form",))

    def test_items(self):
        for wrong in samples.anything() + [ANY, [ANY, (0, 1, 2)], (ANY, (0, 0, 2)), (ANY, (0, True, 2))]:
            self.assertIsNotNone(check_rewriting(wrong))
            self.assertEqual(check_list([wrong]), ("rewriting", 0))
            self.assertEqual(check_list([SAME, ONE, wrong, wrong]), ("rewriting", 2))

    def test_both(self):
        a, b, c = [(((label, (), ()), (), ()), ((), (), ())) for label in "abc"]
        any_label = ((((), (), ()), (), ()), ((), (), ()))
        not_a = (((("a",), (), ()), (), ()), ((), (), ()))
        self.assertEqual(check_list([ONE, ONE]), ("both", 0, 1))
        self.assertEqual(check_list([ONE, ONE, 5]), ("rewriting", 2))
        self.assertEqual(check_list([a, b, c, b, a]), ("both", 1, 3))
        self.assertEqual(check_list([a, b, c, any_label, a]), ("both", 0, 3))
        self.assertEqual(check_list([b, c, a, not_a]), ("both", 0, 3))
        self.assertEqual(check_list([a, not_a, c]), ("both", 1, 2))
        self.assertEqual(check_list([a, SAME, b, not_a]), ("both", 0, 1))
        self.assertIsNone(check_list([a, not_a, ONE]))

    def test_by_meets(self):
        r = random.Random(4)
        found = []
        for _ in range(400):
            thing = [(models.random_pattern(r, r.choice((0, 1, 1, 2))), ((), (), ())) for _ in range(r.randint(2, 4))]
            pairs = [("both", j, k) for k in range(len(thing)) for j in range(k)
                     if meet(thing[j][0], thing[k][0]) is not None]
            found.append(check_list(thing))
            self.assertEqual(found[-1], pairs[0] if pairs else None)
        self.assertTrue(0 < found.count(None) < 400)


class DoneByTest(unittest.TestCase):
    def test_for_all_small_states(self):
        for steps in SCRIPTS:
            found = list_of(steps)
            for state in STATES:
                self.assertEqual(done_by(found, state), run(steps, state))
        self.assertEqual(done_by(rewritings=[ONE], state=((), (), ())), ((), (), ()))

    def test_lists_that_are_not_of_scripts(self):
        swap_way = ((TREE, ("left", (), TREE, WAY), ()), (0, ("right", 1, 2, 3), ()))
        drop_way = ((TREE, WAY, ("a", TREE, TREE)), (0, (), 2))
        for state in STATES:
            self.assertEqual(done_by([swap_way, drop_way], state), models.do_list([swap_way, drop_way], state))

    def test_errors_in_their_order(self):
        for wrong in ([ONE, ONE], (), [5], None, [SAME, SAME, SAME], {"a": 1}):
            with self.assertRaises(InvalidList) as caught:
                done_by(wrong, 5)
            self.assertEqual(caught.exception.problem, check_list(wrong))
        for state in samples.anything() + [ANY]:
            if check_state(state) is not None:
                for good in ([], [SAME], [ONE]):
                    with self.assertRaises(InvalidState) as caught:
                        done_by(good, state)
                    self.assertEqual(caught.exception.thing, state)


class BothAndEitherTest(unittest.TestCase):
    def check(self, first, second, states):
        one, other = both(first, second), either(first, second)
        for found in (one, other):
            self.assertIsInstance(found, list)
            self.assertIsNone(check_list(found))
        for state in states:
            made = models.do_list(first, state)
            self.assertEqual(models.do_list(one, state), None if made is None else models.do_list(second, made))
            self.assertEqual(models.do_list(other, state), models.do_list(second, state) if made is None else made)

    def test_lists_of_scripts(self):
        lists = [list_of(steps) for steps in SCRIPTS]
        for first in lists:
            for second in lists[::2]:
                self.check(first, second, STATES[::3])

    def test_other_lists(self):
        r = random.Random(2)
        for _ in range(60):
            first = [(pattern, models.random_template(r, 3, pattern)) for pattern in [models.random_pattern(r, 2)]]
            second = []
            for _ in range(3):
                pattern = models.random_pattern(r, r.choice((1, 1, 2)))
                if all(meet(pattern, other[0]) is None for other in second):
                    second.append((pattern, models.random_template(r, 3, pattern)))
            self.check(first, second, STATES)
            self.check(list_of(("rise",)), second, STATES[::2])
            self.check(second[:1], first, STATES[::2])
            self.assertIsNone(check_list(both(second, first)))

    def test_empty_lists(self):
        for found in ([SAME], list_of(("rise",)), [ONE], []):
            self.assertEqual(both(found, []), [])
            self.assertEqual(both([], found), [])
            self.check(found, [], STATES[::5])
            self.check([], found, STATES[::5])
        self.assertEqual(either([], []), [])
        self.assertEqual(both(first=[SAME], second=[ONE]), [ONE])
        self.assertEqual(either(second=[SAME], first=[SAME]), [SAME])

    def test_scripts_of_eight_commands_together_quickly(self):
        r = random.Random(7)
        pairs = [(steps[:k], steps[k:]) for steps in EIGHT[:3] + EIGHT[5:6] for k in (1, 4, 7)]
        for _ in range(40):
            first = r.randint(0, 8)
            pairs.append((models.random_script(r, first), models.random_script(r, 8 - first)))
        for first, second in pairs:
            first, second = list_of(first), list_of(second)
            begin = time.monotonic()
            found = both(first, second), either(first, second)
            self.assertLess(time.monotonic() - begin, 4)
            for made in found:
                self.assertIsNone(check_list(made))
                self.assertEqual(done_by(made, ((), (), ())), models.do_list(made, ((), (), ())))

    def test_lists_of_many_items_quickly(self):
        many = list_of(("rise",) * 8)
        for first, second in ((list_of(("up",) * 4), many), (many, list_of(("up",) * 4))):
            for call in (both, either) if len(first) > len(second) else (both,):
                begin = time.monotonic()
                made = call(first, second)
                self.assertLess(time.monotonic() - begin, 4)
                begin = time.monotonic()
                self.assertIsNone(check_list(made))
                self.assertLess(time.monotonic() - begin, 4)
        blocks = [(part, ((), (), ())) for part in less(ANY, (((), (), ()), (), ((), (), ())))]
        self.check(list_of(("up",) * 4), blocks, STATES[::4])

    def test_wrong_lists(self):
        for wrong in ([ONE, ONE], (), [5], None, [SAME, ONE], (SAME,), "list", [[SAME]], {"a": [SAME]}):
            for call in (both, either):
                with self.assertRaises(InvalidList) as caught:
                    call(wrong, [7, 7])
                self.assertEqual(caught.exception.problem, check_list(wrong))
                with self.assertRaises(InvalidList) as caught:
                    call([SAME], wrong)
                self.assertEqual(caught.exception.problem, check_list(wrong))

    def test_arguments_stay_and_lists_are_new(self):
        first, second = list_of(("rise",)), list_of(("up",))
        kept = copy.deepcopy((first, second))
        for call in (both, either):
            expected = call(first, second)
            call(first, second).clear()
            self.assertEqual((first, second), kept)
            self.assertEqual(call(first, second), expected)
        made = either(first, [])
        made.clear()
        self.assertEqual(first, kept[0])
        made = both([SAME], second)
        made.clear()
        self.assertEqual(second, kept[1])

    def test_example(self):
        self.assertEqual(done_by(list_of((("else", ("left",), (("put", "a"),)),)), ((), (), ())), (("a", (), ()), (), ()))


if __name__ == "__main__":
    unittest.main()
