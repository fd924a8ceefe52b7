"""cursorscripts.making: lists made into scripts (points 1, 2 and 17)."""

import copy
import random
import time
import unittest

import models
import samples
from cursorscripts.alike import alike, check_list_of
from cursorscripts.commands import check_script, run
from cursorscripts.errors import Drops, InvalidList
from cursorscripts.lists import check_list, list_of
from cursorscripts.making import script_of
from cursorscripts.patterns import less
from cursorscripts.rewritings import check_rewriting, rewritings_of
from models import ANY, REWRITINGS, STATES, TREE, WAY
from test_lists import ONE, SAME, SCRIPTS

EIGHT = ("a", "b", "c", "d", "e", "f", "g", "h")


def way_end(way):
    while isinstance(way, tuple) and way not in ((), WAY):
        way = way[3]
    return way


def keeps_way(rewriting):
    """Point 17, word by word."""
    pattern, template = rewriting
    if way_end(pattern[1]) == ():
        return True
    return way_end(template[1]) == models.kinds(pattern).index("way")


def mutated(r, pattern):
    """A pattern near another one that no state of this one fits."""
    rest = less(ANY, pattern)
    return r.choice(rest) if rest else None


def random_list(r, nodes, labels=("a", "b"), barred=2):
    """A list of at most three rewritings that keep the way, with so many nodes."""
    found = []
    for number in range(12):
        pattern = models.random_pattern(r, nodes, labels, barred)
        if number > 5 and found:
            pattern = mutated(r, r.choice(found)[0]) or pattern
        item = (pattern, models.random_template(r, nodes, pattern))
        if len(found) < 3 and check_list(found + [item]) is None:
            found.append(item)
    return found


class ScriptOfTest(unittest.TestCase):
    def check(self, rewritings, states=()):
        begin = time.monotonic()
        steps = script_of(rewritings)
        self.assertLess(time.monotonic() - begin, 4)
        self.assertIsNone(check_script(steps))
        self.assertLessEqual(models.commands_in(steps), 20000)
        for state in states:
            self.assertEqual(run(steps, state), models.do_list(rewritings, state), (rewritings, state))
        begin = time.monotonic()
        self.assertIsNone(alike(steps, rewritings))
        self.assertLess(time.monotonic() - begin, 4)
        return steps

    def test_rewritings_for_all_small_states(self):
        for rewriting in REWRITINGS:
            if keeps_way(rewriting):
                self.check([rewriting], STATES)

    def test_lists_of_scripts(self):
        for steps in SCRIPTS:
            found = list_of(steps)
            made = self.check(found, STATES[::3])
            self.assertIsNone(alike(made, steps))
            self.assertIsNone(check_list_of(made, found))

    def test_lists_of_scripts_of_four_commands(self):
        r = random.Random(31)
        scripts = [("rise", "rise", "up", "rise"), ("rise",) * 4, ("up",) * 4, (("else", ("rise",), ()),) * 2,
                   (("else", ("rise", "rise"), ("up",)),), (("not", ("rise", "up", "rise")),),
                   (("not", (("not", ("rise", "rise")),)),), ("trade", ("isnot", "a"), ("isnot", "b"), "left")]
        for steps in scripts + [models.random_script(r, 4) for _ in range(120)]:
            found = list_of(steps)
            self.assertIsNone(alike(self.check(found), steps))

    def test_random_lists_by_all_small_states(self):
        r = random.Random(32)
        for _ in range(60):
            self.check(random_list(r, r.randint(0, 3)), STATES[::2])

    def test_random_lists_of_twelve_nodes(self):
        r = random.Random(33)
        for number in range(60):
            labels, barred = ((("a",), 0), (("a", "b"), 2), (EIGHT, 8))[number % 3]
            self.check(random_list(r, 12, labels, barred))

    def test_patterns_that_are_told_apart_late(self):
        # Three rewritings that have nearly all in common, with eight barred labels at each node.
        focus = (EIGHT, (EIGHT, (EIGHT, (), ()), ()), (EIGHT, (), ()))
        way = ("left", EIGHT, (EIGHT, (), ()), ("right", EIGHT, (), ("left", EIGHT, (), ("left", EIGHT, (), WAY))))
        ends = [((), (EIGHT, TREE, TREE)), (("a", TREE, TREE), (EIGHT, TREE, TREE)), (TREE, ())]
        r = random.Random(34)
        patterns = [((EIGHT, focus[1], (EIGHT, (), far)), way, hand) for far, hand in ends]
        found = [(pattern, models.random_template(r, 12, pattern)) for pattern in patterns]
        self.assertIsNone(check_list(found))
        self.check(found, STATES[::9])
        self.check(found[::-1])

    def test_patterns_two_of_which_are_told_apart_at_each_end(self):
        # What one of three rewritings leaves open the two others have in common, but for the end of it.
        def tree(end):
            for _ in range(6):
                end = (EIGHT, (), end)
            return end

        def way(end):
            for _ in range(6):
                end = ("left", EIGHT, (), end)
            return end
        leaf = ("a", (), ())
        patterns = [(tree(()), WAY, tree(())), (tree(leaf), way(()), TREE), (TREE, way(("left", "a", (), ())), tree(leaf))]
        r = random.Random(35)
        found = [(pattern, models.random_template(r, 12, pattern)) for pattern in patterns]
        self.assertIsNone(check_list(found))
        self.assertLess(models.commands_in(self.check(found, STATES[::9])), 8000)
        self.assertLess(models.commands_in(self.check(found[::-1])), 8000)

    def test_ends(self):
        steps = self.check([], STATES)
        self.assertEqual([state for state in STATES if run(steps, state) is not None], [])
        self.assertIsNone(alike(self.check([SAME], STATES), ()))
        self.check([ONE], STATES)
        for state in STATES[::25]:
            for other in STATES[::25]:
                self.check([(state, other)], STATES[::5])
        self.check([(ANY, ((), 1, ()))], STATES)
        self.check([(ANY, (("c", 2, 0), ("left", "d", 0, ("right", "e", 2, 1)), ("f", 0, ("g", 2, 0))))], STATES[::3])

    def test_labels_that_are_kept(self):
        pattern = ((((), TREE, TREE), ("left", (), TREE, ("right", ("a",), (), WAY)), ((), (), TREE)))
        self.assertEqual(models.kinds(pattern), ["label", "tree", "tree", "label", "tree", "label", "way", "label", "tree"])
        template = ((7, (5, 1, ()), (3, (), (0, 2, 8))), ("right", 0, (3, 4, 4), ("left", 5, (7, (), ()), 6)), (5, 8, 1))
        states = [((x, ("e", (), ()), ()), ("left", y, ("f", (), ()), ("right", z, (), ("left", "h", (), ()))), ("b", (), ()))
                  for x in "ab" for y in "ac" for z in "ad"]
        self.check([(pattern, template)], states + STATES)

    def test_way_to_the_root(self):
        self.assertIsNone(alike(script_of([((TREE, (), TREE), (1, (), 0))]), ("top", "trade")))
        pattern = (TREE, ("left", (), TREE, ("left", "a", (), ())), ())
        self.check([(pattern, ((1, 2, 0), (), (1, (), ())))], STATES)
        self.check([(pattern, (2, ("right", 1, 0, ("left", "b", (), ())), 0))], STATES)

    def test_the_first_that_does_not_keep_the_way(self):
        ends = [((TREE, WAY, ()), (0, (), ())), ((TREE, WAY, ()), (0, ("left", "a", (), ()), 0)),
                ((TREE, ("left", (), TREE, WAY), ()), (0, (), 2)), ((TREE, ("left", (), TREE, WAY), ()), ((), ("left", 1, 0, ()), 0))]
        for drops in ends:
            self.assertIsNone(check_rewriting(drops))
            self.assertFalse(keeps_way(drops))
            others = [((TREE, (), ("a", (), ())), (0, (), ())), ((TREE, WAY, ("b", (), ())), (0, 1, ())),
                      ((TREE, WAY, ("c", (), ())), (0, (), ()))]
            for number in range(3):
                thing = others[:number] + [drops] + others[number:]
                self.assertIsNone(check_list(thing))
                with self.assertRaises(Drops) as caught:
                    script_of(thing)
                self.assertEqual(caught.exception.number, number)
        for rewriting in REWRITINGS:
            if not keeps_way(rewriting):
                with self.assertRaises(Drops) as caught:
                    script_of(rewritings=[rewriting])
                self.assertEqual(caught.exception.number, 0)

    def test_wrong_lists_come_first(self):
        drops = ((TREE, WAY, ()), (0, (), ()))
        for wrong in [[drops, 5], [drops, drops], [ONE, ONE], (drops,), (), None, [SAME, ONE]] + samples.anything():
            problem = check_list(wrong)
            if problem is not None:
                with self.assertRaises(InvalidList) as caught:
                    script_of(wrong)
                self.assertEqual(caught.exception.problem, problem)

    def test_arguments_stay_and_the_same_is_told_again(self):
        for steps in SCRIPTS:
            found = list_of(steps)
            kept = copy.deepcopy(found)
            first = script_of(found)
            self.assertEqual(found, kept)
            self.assertEqual(script_of(kept), first)

    def test_each_command(self):
        for command in ("left", "right", "up", "rise", "cut", "paste", "trade", "swap", "liftleft", "liftright", "inner",
                        ("put", "a"), ("set", "a"), ("wrapleft", "a"), ("is", "a"), ("isnot", "a")):
            self.assertIsNone(alike(self.check(rewritings_of(command)), (command,)))

    def test_what_is_made_may_be_made_again(self):
        for steps in (("rise",), ("left", "trade"), (("else", ("up",), ("copy",)),)):
            made = script_of(list_of(steps))
            self.assertIsNone(alike(script_of(list_of(made)), steps))


if __name__ == "__main__":
    unittest.main()
