"""cursorscripts.alike: whether scripts and lists do the same for all states (points 1, 2 and 9)."""

import copy
import random
import time
import unittest

import models
import samples
from cursorscripts.alike import alike, check_list_of, fails, within, works
from cursorscripts.commands import check_script, run
from cursorscripts.errors import InvalidList, InvalidScript
from cursorscripts.lists import both, check_list, either, list_of
from cursorscripts.patterns import less, meet
from cursorscripts.rewritings import follow
from cursorscripts.trees import nodes_of
from models import ANY, STATES, TREE, WAY
from test_lists import EIGHT, ONE, SAME, SCRIPTS

COUNTS = [nodes_of(state) for state in STATES]
WRONG_LISTS = [[ONE, ONE], [5], [SAME, ONE], [ONE, (ANY, (0, 0, 0))], [[SAME]]]
WRONG_SCRIPTS = [None, 5, "left", True, ("no",), ("up", ("not", ("left", ("put", "A")))), {"a": 1},
                 ("up", ("else", ("up",), ("left", ("is", 5)))), (("not", [SAME]),), ((SAME,),)]


def made_by(steps):
    """What a script or list makes of each state."""
    if isinstance(steps, list):
        return [models.do_list(steps, state) for state in STATES]
    return [run(steps, state) for state in STATES]


def made_of(steps, state):
    return models.do_list(steps, state) if isinstance(steps, list) else run(steps, state)


def fewest(wrong):
    """The fewest nodes of the states of which this is true."""
    return min([count for count, is_wrong in zip(COUNTS, wrong) if is_wrong], default=None)


class AlikeCase(unittest.TestCase):
    def least(self, state, wrong, is_wrong):
        """Checks a state that a function told, where small states tell what it may be."""
        least = fewest(wrong)
        if state is None:
            self.assertIsNone(least)
        else:
            self.assertTrue(is_wrong(state), state)
            self.assertLessEqual(nodes_of(state), 99 if least is None else least)

    def check_pair(self, steps, other):
        one, two = made_by(steps), made_by(other)
        parting = alike(steps, other)
        self.least(parting, [a != b for a, b in zip(one, two)], lambda s: made_of(steps, s) != made_of(other, s))
        self.least(within(steps, other), [a is not None and a != b for a, b in zip(one, two)],
                   lambda s: made_of(steps, s) is not None and made_of(steps, s) != made_of(other, s))
        return parting

    def check_one(self, steps):
        made = made_by(steps)
        self.least(fails(steps), [a is None for a in made], lambda s: made_of(steps, s) is None)
        self.least(works(steps), [a is not None for a in made], lambda s: made_of(steps, s) is not None)


class AlikeTest(AlikeCase):
    def test_scripts_by_all_small_states(self):
        for steps in SCRIPTS:
            for other in SCRIPTS:
                parting = self.check_pair(steps, other)
                if steps == other:
                    self.assertIsNone(parting)

    def test_random_scripts(self):
        r = random.Random(11)
        for _ in range(250):
            steps = models.random_script(r, r.randint(0, 5))
            other = models.random_script(r, r.randint(0, 5))
            self.check_pair(steps, other)
            self.check_pair(steps, steps + (r.choice(("empty", "full", "top", ("isnot", "b"), "inleft")),))

    def test_scripts_and_lists(self):
        for steps in SCRIPTS:
            found = list_of(steps)
            self.assertIsNone(alike(steps, found))
            self.assertIsNone(alike(found[::-1], steps))
            self.assertIsNone(alike(found, list_of(steps)))
            self.assertIsNone(within(found, steps))
            for other in SCRIPTS[::4]:
                self.check_pair(found, other)
                self.check_pair(other, found)
                self.check_pair(found, list_of(other))

    def test_known_pairs(self):
        pairs = [(("swap", "swap"), ("full",)), (("left", "up"), ("right", "up")), (("trade", "trade"), ()),
                 (("cut", "paste"), ("copy",)), (("left", "top"), [])]
        for steps, other in pairs:
            self.assertIsNone(alike(steps, other), (steps, other))
        self.assertIsNone(alike((("not", ("up",)),), ("top",)))
        self.assertIsNone(alike((("else", ("inleft",), ("inright",)),), ("inner",)))
        self.assertIsNone(alike((("is", "a"), ("is", "b")), (("not", ()),)))
        self.assertIsNone(alike((("else", (("is", "a"),), (("isnot", "a"),)),), ("full",)))
        self.assertIsNone(alike(((("put", "a")), ("set", "b")), (("put", "b"),)))
        self.assertIsNone(alike([], ("top", "up")))
        self.assertIsNone(alike((), [SAME]))

    def test_least_parting_states(self):
        cases = [(("cut",), ("clear",), 1), (("liftleft", "full"), ("left", "liftleft", "up"), 2), ((), ("top",), 1),
                 ((), ("up",), 0), (("left",), ("right",), 1), (("swap",), ("full",), 2), (("rise",), ("up",), 1),
                 ((("is", "a"),), (("is", "b"),), 1), ((("isnot", "a"),), ("full",), 1), (("copy",), (), 1),
                 (("left", "left", "left"), ("left", "left", "right"), 3), (("trade",), ("copy",), 1), ([], (), 0),
                 (("up",) * 3, ("up",) * 3 + ("top",), 4), ((("not", ()),), ("empty",), 0),
                 (("copy", "left", "paste"), ("left", "paste"), 1), (("inleft",), ("inner",), 1)]
        for steps, other, expected in cases:
            for one, two in ((steps, other), (other, steps)):
                state = alike(one, two)
                self.assertNotEqual(made_of(one, state), made_of(two, state))
                self.assertEqual(nodes_of(state), expected, (one, two))

    def test_labels_that_are_not_those_of_small_states(self):
        steps = (("not", (("is", "a"),)), ("not", (("is", "b"),)), ("not", (("is", "c"),)), "full")
        state = alike(steps, (("not", ()),))
        self.assertEqual(nodes_of(state), 1)
        self.assertNotIn(state[0][0], ("a", "b", "c"))
        state = works(steps)
        self.assertNotIn(state[0][0], ("a", "b", "c"))
        self.assertIsNone(within(steps, ("full",)))
        swapped = [((((), TREE, TREE), ("left", (), TREE, WAY), TREE), ((3, 1, 2), ("left", 0, 4, 5), 6))]
        kept = [((((), TREE, TREE), ("left", (), TREE, WAY), TREE), ((0, 1, 2), ("left", 3, 4, 5), 6))]
        state = alike(swapped, kept)
        self.assertEqual(nodes_of(state), 2)
        self.assertNotEqual(state[0][0], state[1][1])

    def test_lists_of_other_kinds(self):
        r = random.Random(13)
        for _ in range(150):
            lists = []
            for _ in range(2):
                found = []
                for _ in range(3):
                    pattern = models.random_pattern(r, r.choice((0, 1, 1, 2)))
                    item = (pattern, models.random_template(r, r.randint(0, 3), pattern))
                    found = found + [item] if check_list(found + [item]) is None else found
                lists.append(found)
            self.check_pair(lists[0], lists[1])
            self.check_one(lists[0])
            cut = ((), WAY, TREE)
            parts = [(part, item) for item in lists[0] for part in less(item[0], cut) + [meet(item[0], cut)]]
            divided = [follow(models.same(part), item) for part, item in parts if part is not None]
            self.assertIsNone(alike(lists[0], divided))
            self.assertIsNone(alike(divided[::-1], lists[0]))
            self.check_pair(lists[0], divided[1:])

    def test_within(self):
        self.assertIsNone(within(("top", "clear"), ("clear",)))
        self.assertIsNone(within(steps=[], other=("left",)))
        self.assertEqual(nodes_of(within(("clear",), ("top", "clear"))), 1)
        self.assertEqual(within((), []), ((), (), ()))
        self.assertEqual(nodes_of(within(("copy",), ("clear",))), 1)

    def test_fails_and_works(self):
        for steps in SCRIPTS:
            self.check_one(steps)
            self.check_one(list_of(steps))
        r = random.Random(15)
        for _ in range(200):
            self.check_one(models.random_script(r, r.randint(0, 6)))
        self.assertEqual([fails(()), works(())], [None, ((), (), ())])
        self.assertEqual([fails([]), works([])], [((), (), ()), None])
        self.assertEqual([fails(("inner",)), works(("top", "up"))], [((), (), ()), None])
        self.assertEqual([fails(steps=("clear",)), works(steps=(("not", ()),))], [None, None])
        self.assertEqual(nodes_of(works(("left",) * 7)), 7)
        self.assertEqual(nodes_of(fails((("else", ("empty",), ("left", "empty")),))), 2)

    def test_by_name(self):
        self.assertIsNone(alike(steps=("swap",), other=("swap",) * 3))
        self.assertIsNone(within(other=(), steps=("top",)))


class CheckListOfTest(AlikeCase):
    def test_lists_of_the_script(self):
        for steps in SCRIPTS:
            found = list_of(steps)
            self.assertIsNone(check_list_of(steps, found))
            self.assertIsNone(check_list_of(steps=steps, thing=found[::-1]))

    def check(self, steps, thing):
        problem = check_list_of(steps, thing)
        wrong = [run(steps, state) != models.do_list(thing, state) for state in STATES]
        if problem is not None:
            self.assertEqual((len(problem), problem[0]), (2, "state"))
        self.least(None if problem is None else problem[1], wrong, lambda s: run(steps, s) != models.do_list(thing, s))
        return problem

    def test_a_rewriting_left_out_or_with_another_template(self):
        for steps in SCRIPTS:
            found = list_of(steps)
            for number, (pattern, template) in enumerate(found):
                self.assertIsNotNone(self.check(steps, found[:number] + found[number + 1:]))
                for other in (((), (), ()), (template[2], template[1], template[0]), (("a", (), ()), (), template[0])):
                    self.check(steps, found[:number] + [(pattern, other)] + found[number + 1:])

    def test_a_rewriting_too_many(self):
        problem = check_list_of(("left",), list_of(("left",)) + [ONE])
        self.assertEqual(problem, ("state", ((), (), ())))
        self.assertEqual(check_list_of((("not", ()),), []), None)

    def test_divided_rewritings(self):
        by_label = [((("a", TREE, TREE), WAY, TREE), (("a", 1, 0), 2, 3)),
                    (((("a",), TREE, TREE), WAY, TREE), ((0, 2, 1), 3, 4))]
        self.assertIsNone(check_list_of(("swap",), by_label))
        self.assertEqual(nodes_of(self.check(("swap",), by_label[:1])[1]), 1)

    def test_problems_of_the_list(self):
        for thing in WRONG_LISTS + samples.anything() + [(SAME,), ()]:
            if check_list(thing) is not None:
                self.assertEqual(check_list_of((), thing), check_list(thing))

    def test_the_script_is_a_script_alone_and_comes_first(self):
        for wrong in WRONG_SCRIPTS + [[], [SAME], [5]]:
            with self.assertRaises(InvalidScript) as caught:
                check_list_of(wrong, [5])
            self.assertEqual(caught.exception.problem, check_script(wrong))
        with self.assertRaises(InvalidScript) as caught:
            check_list_of(list_of(()), list_of(()))
        self.assertEqual(caught.exception.problem, ())


class ErrorsTest(unittest.TestCase):
    def raises(self, call, wrong):
        with self.assertRaises((InvalidScript, InvalidList)) as caught:
            call()
        if isinstance(wrong, list):
            self.assertIsInstance(caught.exception, InvalidList)
            self.assertEqual(caught.exception.problem, check_list(wrong))
        else:
            self.assertIsInstance(caught.exception, InvalidScript)
            self.assertEqual(caught.exception.problem, check_script(wrong))

    def test_steps_come_first(self):
        for wrong in WRONG_LISTS + WRONG_SCRIPTS:
            for call in (alike, within):
                for other in ((), [], 5, [5], ("no", "no")):
                    self.raises(lambda: call(wrong, other), wrong)
                for good in ((), [], ("left",), [SAME]):
                    self.raises(lambda: call(good, wrong), wrong)
            self.raises(lambda: fails(wrong), wrong)
            self.raises(lambda: works(wrong), wrong)

    def test_anything(self):
        for thing in samples.anything():
            if isinstance(thing, list) and check_list(thing) is None or check_script(thing) is None:
                continue
            for call in (lambda: alike(thing, thing), lambda: within((), thing), lambda: fails(thing),
                         lambda: works(thing)):
                self.raises(call, thing)


class LimitsTest(unittest.TestCase):
    def quickly(self, call, *arguments):
        begin = time.monotonic()
        answer = call(*arguments)
        self.assertLess(time.monotonic() - begin, 5, (call, arguments))
        return answer

    def test_scripts_of_eight_commands(self):
        r = random.Random(21)
        scripts = EIGHT + [models.random_script(r, 8) for _ in range(10)]
        for steps in scripts:
            for other in scripts:
                state = self.quickly(alike, steps, other)
                self.assertTrue(state is None or run(steps, state) != run(other, state))
                state = self.quickly(within, steps, other)
                self.assertTrue(state is None or run(steps, state) not in (None, run(other, state)))
            state = self.quickly(fails, steps)
            self.assertTrue(state is None or run(steps, state) is None)
            state = self.quickly(works, steps)
            self.assertTrue(state is None or run(steps, state) is not None)

    def test_lists_of_scripts_of_eight_commands(self):
        for steps in EIGHT:
            found = list_of(steps)
            self.assertIsNone(self.quickly(alike, found, found[::-1]))
            self.assertIsNone(self.quickly(check_list_of, steps, found))
            fewer = found[:len(found) // 2] + found[len(found) // 2 + 1:]
            state = self.quickly(alike, steps, fewer)
            self.assertEqual([run(steps, state) is None, models.do_list(fewer, state)], [False, None])
            self.assertEqual(self.quickly(check_list_of, steps, fewer)[0], "state")
            self.assertIsNotNone(self.quickly(fails, fewer))
            self.assertEqual(self.quickly(works, fewer) is None, fewer == [])

    def test_lists_that_both_and_either_returned(self):
        r = random.Random(22)
        pairs = [(steps[:k], steps[k:]) for steps in EIGHT[:3] + EIGHT[5:6] for k in (1, 4, 7)]
        pairs += [(models.random_script(r, k), models.random_script(r, 8 - k)) for k in range(9)] + [(("rise",) * 8, ("up",) * 3)]
        for first, second in pairs:
            one = both(list_of(first), list_of(second))
            other = either(list_of(first), list_of(second))
            self.assertIsNone(self.quickly(alike, one, first + second))
            self.assertIsNone(self.quickly(alike, (("else", first, second),), other))
            self.assertIsNone(self.quickly(check_list_of, first + second, one))
            self.assertIsNone(self.quickly(alike, other, other[::-1]))
            self.assertEqual(self.quickly(works, one), works(first + second))

    def test_a_least_parting_state_has_at_most_as_many_nodes_as_commands_look_and_one(self):
        looks = {"rise": 2, "clear": 0, "cut": 0, "copy": 0, "paste": 0, "trade": 0, "wrapleft": 0, "wrapright": 0}

        def looked(steps):
            return sum(sum(looked(script) for script in command[1:]) if command[0] in ("else", "not")
                       else looks.get(command if isinstance(command, str) else command[0], 1) for command in steps)
        r = random.Random(23)
        for _ in range(400):
            steps, other = models.random_script(r, r.randint(0, 8)), models.random_script(r, r.randint(0, 8))
            state = alike(steps, other)
            if state is not None:
                self.assertLessEqual(nodes_of(state), looked(steps) + looked(other) + 1)


class ArgumentsTest(unittest.TestCase):
    def test_arguments_stay_and_the_same_is_told_again(self):
        for steps in SCRIPTS[::2]:
            for other in SCRIPTS[::3]:
                found = list_of(other)
                kept = copy.deepcopy(found)
                first = [alike(steps, found), within(found, steps), check_list_of(steps, found), fails(found), works(found)]
                self.assertEqual(found, kept)
                self.assertEqual([alike(copy.deepcopy(steps), kept), within(kept, steps), check_list_of(steps, kept),
                                  fails(kept), works(kept)], first)


if __name__ == "__main__":
    unittest.main()
