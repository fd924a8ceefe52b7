"""cursorscripts.back: what makes one state of two, and what leads back (points 1, 2 and 11)."""

import copy
import random
import time
import unittest

import models
import samples
from cursorscripts.alike import alike, works
from cursorscripts.back import back, check_back, check_clash, clash
from cursorscripts.commands import check_script, run
from cursorscripts.errors import InvalidList, InvalidScript, NoBack, NotOneToOne
from cursorscripts.lists import check_list, done_by, list_of
from cursorscripts.trees import check_state, nodes_of
from models import ANY, STATES, TREE, WAY
from test_lists import EIGHT, ONE, SAME, SCRIPTS

LEAF = ("a", (), ())
WRONG = [[5], [ONE, ONE], [SAME, ONE], None, 5, "left", ("no",), ("up", ("not", ("left", ("put", "A"))))]
# One-to-one, and a list leads back.
TURNING = [(), ("left",), ("right",), ("inleft", "rise"), ("inright", "up"), ("swap",), ("trade",), (("put", "a"),),
           (("wrapleft", "b"),), ("top",), (("is", "a"), ("set", "b")), ("trade", "left", "trade"),
           ("empty", "trade"), ("full", "swap", "trade"), (("isnot", "a"),),
           (("else", (("is", "a"), ("set", "b")), (("is", "b"), ("set", "a"))),), ("inleft", "up", "swap"),
           (("not", ("left",)), "inner"), ("empty", ("wrapright", "c")), ("left", "inleft", "up", "right")]
# Not one-to-one.
CLASHING = [("rise",), ("clear",), ("up",), ("cut",), ("copy",), ("paste",), (("set", "a"),), ("liftleft",), ("liftright",),
            (("else", (("is", "a"), ("set", "b")), ()),), ("trade", "clear"), ("left", "liftleft"), ("up", "full"),
            (("else", (("put", "a"),), ()),), (("else", ("empty", ("wrapleft", "a")), ("full",)),)]
# One-to-one, but two trees or labels are made equal that are not both known.
DOUBLING = [("trade", "empty", "trade", "copy"), ("trade", "empty", "paste"), ("empty", "paste"),
            ("trade", "empty", "trade", "copy", "left"), ("trade", "empty", "trade", ("wrapleft", "a"), "copy")]


def numbers_in(template):
    """The numbers in a template, each as often as it stands there."""
    if isinstance(template, int):
        return [template]
    return [] if isinstance(template, str) else [number for part in template for number in numbers_in(part)]


def doubles(rewritings):
    """Whether a number stands twice in a template."""
    return any(len(numbers_in(template)) > len({*numbers_in(template)}) for _, template in rewritings)


class ClashTest(unittest.TestCase):
    def check(self, steps):
        """What clash tells, seen against what the script does to all small states."""
        states = clash(steps)
        if states is not None:
            self.assertTrue(isinstance(states, tuple) and len(states) == 2 and states[0] != states[1])
            self.assertEqual([check_state(state) for state in states], [None, None])
            made = [self.made(steps, state) for state in states]
            self.assertTrue(made[0] is not None and made[0] == made[1], (steps, states))
            self.assertLessEqual(max(nodes_of(state) for state in states), 1000)
            self.assertIs(check_clash(steps, states), True)
            self.assertIs(check_clash(steps=steps, thing=states[::-1]), True)
            return states
        made_of = {}
        for state in STATES:
            made = self.made(steps, state)
            if made is not None:
                self.assertNotIn(made, made_of, (steps, state))
                made_of[made] = state
        return None

    def made(self, steps, state):
        return models.do_list(steps, state) if isinstance(steps, list) else run(steps, state)

    def test_known_scripts(self):
        for steps in TURNING + DOUBLING + [(("not", ()),), ("top", "up")]:
            self.assertIsNone(self.check(steps), steps)
            self.assertIsNone(self.check(list_of(steps)), steps)
        for steps in CLASHING:
            self.assertIsNotNone(self.check(steps), steps)
            self.assertIsNotNone(self.check(list_of(steps)), steps)
        self.assertIsNone(clash(steps=()))
        self.assertIsNone(clash([]))

    def test_random_scripts(self):
        r = random.Random(51)
        for _ in range(500):
            self.check(models.random_script(r, r.randint(1, 6)))

    def test_random_scripts_that_copy(self):
        r = random.Random(52)
        words = ("copy", "paste", "trade", "left", "right", "up", "swap", "rise", "cut", "inleft", "empty", "full", "top",
                 ("wrapleft", "a"), ("wrapright", "b"), ("put", "a"), ("set", "b"), ("is", "a"), ("isnot", "a"))
        for _ in range(1500):
            steps = tuple(r.choice(words) for _ in range(r.randint(1, 7)))
            if r.random() < 0.3:
                steps = (("else", steps[:3], steps[3:]),)
            self.check(steps)

    def test_two_rewritings_that_make_one_state(self):
        def item(label, *template):
            return (((label, TREE, TREE), WAY, TREE), template)
        kept = item("a", ("a", 0, 1), 2, 3)
        for other, good in ((item("b", ("a", 0, 1), 2, 3), False), (item("b", ("b", 0, 1), 2, 3), True),
                            (item("b", 0, 2, ("a", 1, 3)), False), (item("b", ("a", 0, ("c", 1, ())), 2, 3), False),
                            (item(("a",), (0, 1, 2), 3, 4), True), (item(("a",), ("b", 1, 2), ("left", 0, (), 3), 4), True),
                            (item(("a", "b"), ("a", 1, 2), ("left", 0, (), 3), 4), False)):
            self.assertIsNone(check_list([kept, other]))
            self.assertEqual(self.check([kept, other]) is None, good, other)

    def test_unlike_labels_only(self):
        # What one makes bars just the label that the other one makes.
        bars = (((("a",), TREE, TREE), WAY, ()), ((0, 1, 2), 3, ()))
        makes = (((("b",), TREE, TREE), WAY, ("x", (), ())), (("a", 1, 2), ("left", 0, (), 3), ()))
        self.assertIsNone(check_list([bars, makes]))
        self.assertIsNone(self.check([bars, makes]))
        makes = (makes[0], (("c", 1, 2), ("left", 0, (), 3), ()))
        self.assertIsNotNone(self.check([bars, makes]))

    def test_a_tree_is_no_part_of_itself(self):
        # Equal trees in focus and hand, and a tree in the hand that is a part of the focus.
        copies = ("trade", "empty", "trade", "copy")
        self.check((("else", ("top",) + copies, ("inleft", "up", "top") + copies + (("wrapleft", "a"),)),))
        equal = ((((), TREE, TREE), (), ()), ((0, 1, 2), (), (0, 1, 2)))
        part = (((), ("left", "a", TREE, ()), ()), (("b", 0, ()), (), 0))
        self.assertIsNone(self.check([equal, part]))
        part = (((), ("left", "a", TREE, ()), ()), (("b", 0, ()), (), ("b", 0, ())))
        self.assertIsNotNone(self.check([equal, part]))
        self.check((("else", ("top", "trade", "empty", "trade", "copy"), ("inner", "copy", ("wrapleft", "a"))),))

    def test_equal_trees_are_no_unlike_ones(self):
        doubled = ((TREE, ("left", "a", (), ()), ()), (0, (), 0))
        for focus, hand, good in (((), LEAF, True), (LEAF, ("b", (), ()), True), (LEAF, LEAF, False), ((), (), False),
                                  (("a", LEAF, ()), ("a", (), LEAF), True), (("a", LEAF, ()), ("a", LEAF, ()), False)):
            other = (((), (), ()), (focus, (), hand))
            self.assertEqual(self.check([doubled, other]) is None, good)
            self.assertEqual(self.check([other, doubled]) is None, good)

    def test_equal_labels_of_which_one_is_barred(self):
        for label, good in (("a", True), ("b", False)):
            for one, other in (((0, (), ()), (label, (), ())), ((label, (), ()), (0, (), ()))):
                bars = (((("a",), (), ()), (), ()), (one, (), other))
                doubled = ((((), (), ()), ("left", "a", (), ()), ()), ((0, (), ()), (), (0, (), ())))
                self.assertEqual(self.check([bars, doubled]) is None, good)
                self.assertEqual(self.check([doubled, bars]) is None, good)

    def test_lists_of_many_rewritings(self):
        kept = [models.same(pattern) for pattern, _ in list_of(("rise",) * 5)]
        self.assertEqual(len(kept), 32)
        self.assertIsNone(self.check(kept))
        self.assertIsNone(self.check(kept + [models.same(((), WAY, TREE))]))
        for number in (0, 9, 31):
            # The empty focus becomes what one of the others keeps.
            made = (((), (), ()), works([kept[number]]))
            self.assertIsNotNone(self.check(kept[:5] + [made] + kept[5:]))

    def test_wrong_steps(self):
        for wrong in WRONG + samples.anything():
            problem = check_list(wrong) if isinstance(wrong, list) else check_script(wrong)
            if problem is None:
                continue
            for call in (clash, back, lambda x: check_clash(x, 5), lambda x: check_back(x, 5), lambda x: check_back(x, [5])):
                with self.assertRaises(InvalidList if isinstance(wrong, list) else InvalidScript) as caught:
                    call(wrong)
                self.assertEqual(caught.exception.problem, problem)


class CheckClashTest(unittest.TestCase):
    def test_all_small_pairs(self):
        small = [state for state in STATES if nodes_of(state) < 2]
        for steps in (("clear",), ("rise",), ("left",), ("copy",), ("up",), (("set", "a"),), (("not", ("up",)),)):
            for one in small:
                for other in small:
                    made = run(steps, one)
                    expected = one != other and made is not None and made == run(steps, other)
                    self.assertIs(check_clash(steps, (one, other)), expected)
                    self.assertIs(check_clash(list_of(steps), (one, other)), expected)

    def test_example(self):
        self.assertIs(check_clash(("clear",), ((LEAF, (), ()), ((), (), ()))), True)

    def test_what_is_no_pair_of_states(self):
        good = ((LEAF, (), ()), ((), (), ()))
        for thing in samples.anything() + [list(good), good[:1], good + good[:1], (good[0], good[0]), (list(good[0]), good[1]),
                                           (good[0], LEAF), (ANY, good[1]), (good[0], None), (good[0], ((), WAY, ()))]:
            self.assertIs(check_clash(("clear",), thing), False)
            if check_state(thing) is not None:
                self.assertIs(check_clash(("clear",), (good[0], thing)), False)
                self.assertIs(check_clash(list_of(("clear",)), (thing, good[1])), False)


class BackTest(unittest.TestCase):
    def check(self, steps):
        found = back(steps)
        self.assertIsInstance(found, list)
        self.assertIsNone(check_list(found))
        made_by = list_of(steps) if isinstance(steps, tuple) else steps
        for state in STATES:
            made = models.do_list(made_by, state)
            if made is not None:
                self.assertEqual(models.do_list(found, made), state, (steps, state))
            before = models.do_list(found, state)
            if before is not None:
                self.assertEqual(models.do_list(made_by, before), state)
        self.assertIsNone(check_back(steps, found))
        return found

    def test_it_undoes(self):
        for steps in TURNING + [("top", "up")]:
            self.check(steps)
            self.check(list_of(steps))
        self.assertEqual(back([]), [])
        self.assertEqual(back(()), [SAME])

    def test_known_ways_back(self):
        for steps, undo in ((("left",), ("inleft", "up")), (("inleft", "rise"), ("right", "rise", "left")),
                            (("swap",), ("swap",)), (("trade",), ("trade",)),
                            ((("wrapleft", "a"),), (("is", "a"), "right", "empty", "up", "liftleft"))):
            self.assertIsNone(alike(self.check(steps), undo))

    def test_lists_that_do_not_keep_the_way(self):
        other_way = ((TREE, ("left", (), TREE, ()), ("b", TREE, ())), (0, ("right", "c", 2, ()), (1, 3, ())))
        self.check([other_way])
        self.check([other_way, ((TREE, WAY, ()), (0, 1, ()))])
        cut_off = ((TREE, ("left", "a", (), WAY), ()), (0, (), ()))
        self.assertIsNotNone(clash([cut_off]))

    def test_not_one_to_one(self):
        for steps in CLASHING:
            for thing in (steps, list_of(steps)):
                with self.assertRaises(NotOneToOne) as caught:
                    back(thing)
                self.assertIs(check_clash(thing, caught.exception.states), True)

    def test_no_list_leads_back(self):
        for steps in DOUBLING:
            for thing in (steps, list_of(steps)):
                with self.assertRaises(NoBack):
                    back(thing)
        two = (("else", ("top", "swap"), ("inner",) + DOUBLING[0]),)
        with self.assertRaises(NoBack):
            back(two)
        # What is copied is wholly known, so nothing has to be looked at twice.
        self.check(("trade", "empty", "trade", "empty", "copy"))
        self.check(("trade", "empty", "trade", ("is", "a"), "left", "empty", "up", "right", "empty", "up", "copy"))
        # It is not one-to-one as well: that comes first.
        with self.assertRaises(NotOneToOne):
            back(("copy",))
        with self.assertRaises(NotOneToOne):
            back((("else", ("top", "clear"), DOUBLING[0]),))

    def test_random_scripts(self):
        r = random.Random(53)
        checked, doubled = 0, 0
        words = ("copy", "paste", "trade", "left", "swap", "empty", "full", "top", "inleft", ("wrapleft", "a"), ("put", "a"))
        for number in range(2500):
            steps = models.random_script(r, r.randint(1, 6))
            if number > 400:
                steps = tuple(r.choice(words) for _ in range(r.randint(1, 6)))
            if clash(steps) is not None or works(steps) is None:
                continue
            if doubles(list_of(steps)):
                doubled += 1
                with self.assertRaises(NoBack):
                    back(steps)
            else:
                checked += 1
                self.check(steps)
        self.assertTrue(checked > 100 and doubled > 20, (checked, doubled))

    def test_lists_are_new(self):
        for steps in (("left",), list_of(("left",))):
            expected = back(steps)
            back(steps=steps).append(5)
            self.assertEqual(back(steps), expected)


class CheckBackTest(unittest.TestCase):
    def check(self, steps, thing):
        """What check_back tells, seen against all small states."""
        problem = check_back(steps, thing)
        made_by = list_of(steps) if isinstance(steps, tuple) else steps
        found = []
        for one, other in ((made_by, thing), (thing, made_by)):
            bad = [nodes_of(state) for state in STATES if models.do_list(one, state) is not None
                   and models.do_list(other, models.do_list(one, state)) != state]
            found.append(min(bad, default=None))
        if problem is None:
            self.assertEqual(found, [None, None])
            return None
        one, other = (made_by, thing) if problem[0] == "script" else (thing, made_by)
        made = done_by(one, problem[1])
        self.assertIsNotNone(made)
        self.assertNotEqual(done_by(other, made), problem[1])
        least = found[0] if problem[0] == "script" else found[1]
        self.assertLessEqual(nodes_of(problem[1]), 99 if least is None else least)
        if problem[0] == "list":
            self.assertIsNone(found[0])
        return problem[0]

    def test_lists_that_lead_back(self):
        for steps in TURNING:
            found = back(steps)
            self.assertIsNone(self.check(steps, found))
            self.assertIsNone(self.check(list_of(steps), found[::-1]))
            for number in range(len(found)):
                self.assertEqual(self.check(steps, found[:number] + found[number + 1:]), "script")

    def test_known_problems(self):
        self.assertEqual(check_back(("full",), [SAME]), ("list", ((), (), ())))
        self.assertEqual(self.check(("left",), list_of(("up",))), "list")
        self.assertIsNone(self.check(("left",), list_of(("inleft", "up"))))
        self.assertEqual(self.check(("rise",), list_of(("right", "rise", "left"))), "script")
        self.assertEqual(check_back(thing=[], steps=()), ("script", ((), (), ())))
        self.assertEqual(check_back(("top", "up"), [SAME]), ("list", ((), (), ())))
        self.assertIsNone(check_back(("top", "up"), []))
        self.assertEqual(nodes_of(check_back(("copy",), [(ANY, (0, 1, ()))])[1]), 1)
        self.assertEqual(nodes_of(check_back(("left",) * 3, [])[1]), 3)

    def test_scripts_against_lists_of_scripts(self):
        scripts = TURNING[:12:2] + CLASHING[::3] + DOUBLING[:1] + SCRIPTS[::6]
        for steps in scripts:
            for other in scripts:
                self.check(steps, list_of(other))
                self.check(list_of(steps), list_of(other))

    def test_random_scripts(self):
        r = random.Random(54)
        for _ in range(200):
            self.check(models.random_script(r, r.randint(0, 4)), list_of(models.random_script(r, r.randint(0, 4))))

    def test_problems_of_the_list(self):
        for thing in [[5], [ONE, ONE], [SAME, ONE], (SAME,), (), None, ("left",)] + samples.anything():
            problem = check_list(thing)
            if problem is not None:
                for steps in ((), ("left",), [], ("clear",)):
                    self.assertEqual(check_back(steps, thing), problem)


class LimitsTest(unittest.TestCase):
    def quickly(self, call, *arguments):
        begin = time.monotonic()
        try:
            return call(*arguments)
        except (NoBack, NotOneToOne):
            return None
        finally:
            self.assertLess(time.monotonic() - begin, 5, (call, arguments))

    def test_scripts_of_eight_commands(self):
        r = random.Random(55)
        one_to_one = [("inleft", "rise", "right", "rise", "left", "left", "left", "swap"), (("not", ("rise",) * 7),),
                      (("not", ("up", "rise", "rise", "up", "up", "rise", "top")),), ("left",) * 8,
                      (("else", ("inleft", "rise"), ("inright", "up", "full", "swap")),)]
        for steps in EIGHT + one_to_one + [models.random_script(r, 8) for _ in range(40)]:
            states = self.quickly(clash, steps)
            self.assertTrue(states is None or check_clash(steps, states))
            self.assertEqual(self.quickly(clash, list_of(steps)) is None, states is None)
            found = self.quickly(back, steps)
            if found is not None:
                self.assertIsNone(self.quickly(check_back, steps, found))
                self.assertIsNone(self.quickly(check_back, list_of(steps), found))
                self.assertIsNone(self.quickly(alike, found, found[::-1]))
            self.quickly(check_back, steps, list_of(steps))

    def test_scripts_and_lists_of_eight_commands_together(self):
        r = random.Random(56)
        for first, second in ((("rise",) * 4, ("up",) * 4), (("up",) * 7, ("left",)), (("left",), ("rise",) * 7)):
            self.quickly(check_back, first, list_of(second))
        for k in list(range(9)) * 3:
            self.quickly(check_back, models.random_script(r, k), list_of(models.random_script(r, 8 - k)))


class ArgumentsTest(unittest.TestCase):
    def test_arguments_stay_and_the_same_is_told_again(self):
        for steps in TURNING + CLASHING:
            found = list_of(steps)
            kept = copy.deepcopy(found)
            first = clash(found), check_back(found, found), check_back(steps, found)
            self.assertEqual(found, kept)
            self.assertEqual((clash(kept), check_back(kept, kept), check_back(copy.deepcopy(steps), kept)), first)
            self.assertEqual(clash(copy.deepcopy(steps)), clash(steps))


if __name__ == "__main__":
    unittest.main()
