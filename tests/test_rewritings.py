"""cursorscripts.rewritings: what rewritings do, one and two in a row (points 1, 2, 4 and 7)."""

import copy
import random
import time
import unittest

import models
import samples
from cursorscripts.commands import run
from cursorscripts.errors import InvalidCommand, InvalidRewriting, InvalidState
from cursorscripts.patterns import meet
from cursorscripts.rewritings import check_rewriting, done, follow, rewritings_of
from cursorscripts.trees import check_state, nodes_of
from models import ANY, REWRITINGS, STATES, TREE, WAY

LEFT = ((((), TREE, TREE), WAY, TREE), (1, ("left", 0, 2, 3), 4))
UP = ((TREE, ("left", (), TREE, WAY), TREE), ((1, 0, 2), 3, 4))
COPY = (ANY, (0, 1, 0))
SIMPLE = ("left", "right", "up", "clear", "cut", "copy", "paste", "trade", "swap", "liftleft", "liftright", "rise",
          "top", "inner", "inleft", "inright", "empty", "full") + tuple(
              (word, label) for word in ("put", "set", "wrapleft", "wrapright", "is", "isnot") for label in ("a", "zz"))
WRONG = [
    (None, ("form",)), (5, ("form",)), ([ANY, (0, 1, 2)], ("form",)), ((ANY,), ("form",)), ((ANY, (0, 1, 2), 3), ("form",)),
    ((), ("form",)), ("ab", ("form",)), ((5, 5), ("pattern",)), (((TREE, WAY), (0, 1, 2)), ("pattern",)),
    (((TREE, TREE, TREE), (0, 1, 2)), ("pattern",)), (([TREE, WAY, TREE], (0, 1, 2)), ("pattern",)),
    ((ANY, [0, 1, 2]), ("template",)), ((ANY, (0, 1)), ("template",)), ((ANY, (0, 1, 2, 2)), ("template",)),
    ((ANY, ()), ("template",)), ((ANY, None), ("template",)), ((ANY, 0), ("template",)), ((ANY, ANY), ("template",)),
    ((ANY, (1, 1, 2)), ("template",)), ((ANY, (0, 0, 2)), ("template",)), ((ANY, (0, 1, 1)), ("template",)),
    ((ANY, (3, 1, 2)), ("template",)), ((ANY, (-1, 1, 2)), ("template",)), ((ANY, (10 ** 99, 1, 2)), ("template",)),
    ((ANY, (False, 1, 2)), ("template",)), ((ANY, (0, True, 2)), ("template",)), ((ANY, ("0", 1, 2)), ("template",)),
    ((ANY, ((0, (), ()), 1, 2)), ("template",)), ((ANY, (("a", 1, ()), 1, 2)), ("template",)),
    ((ANY, (["a", 0, ()], 1, 2)), ("template",)), ((ANY, (("a", 0), 1, 2)), ("template",)),
    ((ANY, ((("a",), 0, ()), 1, 2)), ("template",)), ((ANY, (((), 0, ()), 1, 2)), ("template",)),
    ((ANY, (0, ("up", "a", (), 1), 2)), ("template",)), ((ANY, (0, ("left", "a", 1, 1), 2)), ("template",)),
    ((ANY, (0, ("left", "a", 0, 0), 2)), ("template",)), ((ANY, (0, ("left", 0, 0, 1), 2)), ("template",)),
    ((LEFT[0], (0, 3, 4)), ("template",)), ((LEFT[0], ((1, (), ()), 3, 4)), ("template",)),
    ((LEFT[0], ((False, (), ()), 3, 4)), ("template",)), (((LEFT[0][0], (), ()), (1, ("left", 0, 2, 3), ())), ("template",)),
]


def template_by_words(template, kinds):
    """Whether a template is one, point 7 word by word."""
    def number(thing, kind):
        return isinstance(thing, int) and not isinstance(thing, bool) and thing in range(len(kinds)) and kinds[thing] == kind

    def label(thing):
        return models.is_label(thing) or number(thing, "label")

    def tree(thing):
        if not isinstance(thing, tuple):
            return number(thing, "tree")
        return thing == () or (len(thing) == 3 and label(thing[0]) and tree(thing[1]) and tree(thing[2]))

    def way(thing):
        if not isinstance(thing, tuple):
            return number(thing, "way")
        return thing == () or (len(thing) == 4 and thing[0] in ("left", "right") and isinstance(thing[0], str)
                               and label(thing[1]) and tree(thing[2]) and way(thing[3]))

    return (isinstance(template, tuple) and len(template) == 3
            and tree(template[0]) and way(template[1]) and tree(template[2]))


def spoiled(thing, wrong):
    yield wrong
    if isinstance(thing, tuple):
        for k, part in enumerate(thing):
            for other in spoiled(part, wrong):
                yield thing[:k] + (other,) + thing[k + 1:]


class CheckRewritingTest(unittest.TestCase):
    def test_rewritings(self):
        for rewriting in REWRITINGS + [LEFT, UP, COPY]:
            self.assertIsNone(check_rewriting(rewriting))
        for state in STATES[::9]:
            self.assertIsNone(check_rewriting((state, state)))
            self.assertIsNone(check_rewriting(thing=(ANY, state)))

    def test_wrong_ones(self):
        for thing, problem in WRONG:
            self.assertEqual(check_rewriting(thing), problem, thing)

    def test_anything(self):
        for thing in samples.anything():
            self.assertEqual(check_rewriting(thing), ("pattern",) if isinstance(thing, tuple) and len(thing) == 2
                             else ("form",), thing)
            self.assertEqual(check_rewriting((thing, (0, 1, 2))),
                             ("pattern",) if check_state(thing) is not None else ("template",))
            for template in (thing, (thing, 1, 2), (0, thing, 2), (0, 1, thing), (("a", thing, 0), 1, 2),
                             ((thing, 0, 0), 1, 2), (0, ("left", "a", thing, 1), 2), (0, ("left", thing, 0, 1), 2),
                             (0, ("left", "a", 0, thing), 2), (0, (thing, "a", 0, 1), 2)):
                good = template_by_words(template, ["tree", "way", "tree"])
                self.assertEqual(check_rewriting((ANY, template)), None if good else ("template",), template)

    def test_spoiled_templates_by_words(self):
        for pattern, template in REWRITINGS:
            kinds = models.kinds(pattern)
            for wrong in (None, True, False, -1, 0, 1, 2, 3, 4, 7, "", "a", "A", (), [], ("tree",), ("way",), ("a", (), ())):
                for thing in spoiled(template, wrong):
                    good = template_by_words(thing, kinds)
                    self.assertEqual(check_rewriting((pattern, thing)), None if good else ("template",), thing)


class DoneTest(unittest.TestCase):
    def test_by_words(self):
        for rewriting in REWRITINGS:
            for state in STATES:
                self.assertEqual(done(rewriting, state), models.do(rewriting, state), (rewriting, state))

    def test_random_rewritings_by_words(self):
        r = random.Random(3)
        for _ in range(200):
            pattern = models.random_pattern(r, r.randint(0, 2))
            rewriting = (pattern, models.random_template(r, r.randint(0, 4), pattern))
            self.assertIsNone(check_rewriting(rewriting))
            for state in STATES[::3]:
                self.assertEqual(done(rewriting, state), models.do(rewriting, state))

    def test_examples(self):
        self.assertEqual(done((ANY, (2, 1, 0)), (("a", (), ()), (), ())), ((), (), ("a", (), ())))
        for state in STATES:
            self.assertEqual(done(rewriting=LEFT, state=state), run(("left",), state))

    def test_numbers_several_times_and_not_at_all(self):
        tree = ("b", ("c", (), ()), ())
        self.assertEqual(done((ANY, (("a", 0, 0), 1, ("a", 0, 2))), (tree, (), ())),
                         (("a", tree, tree), (), ("a", tree, ())))
        self.assertEqual(done((ANY, ((), (), ())), (tree, ("left", "a", (), ()), tree)), ((), (), ()))
        twice = ((((), TREE, ()), WAY, ()), ((0, 1, 1), ("right", 0, (), 2), (0, (), ())))
        self.assertEqual(done(twice, (("x", tree, ()), (), ())), (("x", tree, tree), ("right", "x", (), ()), ("x", (), ())))

    def test_errors_in_their_order(self):
        for wrong, _ in WRONG:
            with self.assertRaises(InvalidRewriting) as caught:
                done(wrong, 5)
            self.assertEqual(caught.exception.thing, wrong)
        for state in samples.anything() + [ANY, (TREE, (), ())]:
            if check_state(state) is not None:
                for rewriting in (LEFT, ((), (), ())), (COPY, None):
                    with self.assertRaises(InvalidState) as caught:
                        done(rewriting[0] if rewriting[1] is None else LEFT, state)
                    self.assertEqual(caught.exception.thing, state)


class FollowTest(unittest.TestCase):
    def check(self, first, second, states):
        made = follow(first, second)
        for state in states:
            between = models.do(first, state)
            expected = None if between is None else models.do(second, between)
            self.assertEqual(None if made is None else models.do(made, state), expected, (first, second, state))
        if made is not None:
            self.assertIsNone(check_rewriting(made))
            self.assertEqual(meet(made[0], first[0]), made[0])
        return made

    def test_two_in_a_row_for_all_small_states(self):
        for first in REWRITINGS:
            for second in REWRITINGS:
                self.check(first, second, STATES)

    def test_random_ones(self):
        r = random.Random(5)
        nones = 0
        for _ in range(400):
            pair = []
            for _ in range(2):
                pattern = models.random_pattern(r, r.choice((0, 0, 1, 1, 2)))
                pair.append((pattern, models.random_template(r, r.randint(0, 4), pattern)))
            made = self.check(pair[0], pair[1], STATES[::2])
            nones += made is None
        self.assertTrue(50 < nones < 350)

    def test_example(self):
        self.assertEqual(follow(LEFT, UP), ((((), TREE, TREE), WAY, TREE), ((0, 1, 2), 3, 4)))
        self.assertEqual(follow(second=UP, first=LEFT), follow(LEFT, UP))

    def test_it_is_the_one_rewriting_that_does_it(self):
        self.assertEqual(follow(UP, LEFT), ((TREE, ("left", (), TREE, WAY), TREE), (0, ("left", 1, 2, 3), 4)))
        self.assertEqual(follow(LEFT, LEFT), (((() , ((), TREE, TREE), TREE), WAY, TREE),
                                              (2, ("left", 1, 3, ("left", 0, 4, 5)), 6)))
        same = (ANY, (0, 1, 2))
        for rewriting in REWRITINGS:
            self.assertEqual(follow(same, rewriting), rewriting)
            self.assertEqual(follow(rewriting, same), rewriting)

    def test_unlike_labels_brought_together(self):
        def only(label):
            return ((((label, TREE, TREE), WAY, TREE)), (("c", 0, 1), 2, 3) if isinstance(label, str)
                    else ((0, 1, 2), 3, 4))
        put_a = (((), WAY, TREE), (("a", (), ()), 0, 1))
        self.assertIsNone(follow(put_a, only("b")))
        self.assertIsNone(follow(put_a, only(("a", "b"))))
        self.assertEqual(follow(put_a, only("a")), (((), WAY, TREE), (("c", (), ()), 0, 1)))
        self.assertEqual(follow(put_a, only(("b",))), put_a)
        self.assertIsNone(follow(only(("b",)), only("b")))
        self.assertEqual(follow(only(("b",)), only("a"))[0], (("a", TREE, TREE), WAY, TREE))
        self.assertEqual(follow(only(("b", "d")), only(("a", "b")))[0], ((("a", "b", "d"), TREE, TREE), WAY, TREE))

    def test_one_tree_looked_at_twice(self):
        def focus_and_hand(one, other):
            return ((one, WAY, other), ((), 0, ()))
        a, b, leaf, empty = ("a", (), ()), ("b", (), ()), (("a",), (), ()), ()
        self.assertIsNone(follow(COPY, focus_and_hand(a, b)))
        self.assertIsNone(follow(COPY, focus_and_hand(a, empty)))
        self.assertIsNone(follow(COPY, focus_and_hand(a, leaf)))
        self.assertEqual(follow(COPY, focus_and_hand(a, a)), ((a, WAY, TREE), ((), 0, ())))
        self.assertEqual(follow(COPY, focus_and_hand(b, leaf)), ((b, WAY, TREE), ((), 0, ())))
        full = ((), TREE, ()), ((), (), TREE)
        made = follow(COPY, ((full[0], WAY, full[1]), (1, 2, (0, (), 4))))
        self.assertEqual(made, ((((), (), ()), WAY, TREE), ((), 1, (0, (), ()))))
        made = follow(COPY, (((("b",), TREE, TREE), WAY, (("a",), ("c", (), TREE), TREE)), ((0, 1, 5), 3, (4, 2, 6))))
        self.assertEqual(made, (((("a", "b"), ("c", (), TREE), TREE), WAY, TREE),
                                ((0, ("c", (), 1), 1), 3, (0, 2, 2))))

    def test_one_label_looked_at_twice(self):
        twice = ((((), (), ()), WAY, TREE), ((0, (), ()), ("left", 0, (), 1), (0, (), ())))
        look = ((((), TREE, TREE), ("left", "a", TREE, WAY), (("b",), TREE, TREE)), ((0, (), ()), (), ()))
        self.assertEqual(follow(twice, look), ((("a", (), ()), WAY, TREE), (("a", (), ()), (), ())))
        self.assertIsNone(follow(twice, (((("a",), TREE, TREE), ("left", "a", TREE, WAY), TREE), ((), (), ()))))

    def test_ways(self):
        down = (ANY, (0, ("right", "a", (), 1), 2))
        for end, good in ((WAY, True), ((), False), (("left", (), TREE, WAY), False), (("right", "a", (), WAY), True),
                          (("right", ("a",), TREE, WAY), False), (("right", "a", ("b", TREE, TREE), WAY), False)):
            made = follow(down, ((TREE, end, TREE), (0, (), ())))
            self.assertEqual(made is not None, good, end)
        made = follow(down, ((TREE, ("right", (), TREE, ()), TREE), ((1, 2, 0), (), ())))
        self.assertEqual(made, ((TREE, (), TREE), (("a", (), 0), (), ())))

    def test_errors_in_their_order(self):
        for wrong, _ in WRONG:
            with self.assertRaises(InvalidRewriting) as caught:
                follow(wrong, None)
            self.assertEqual(caught.exception.thing, wrong)
            with self.assertRaises(InvalidRewriting) as caught:
                follow(LEFT, wrong)
            self.assertEqual(caught.exception.thing, wrong)
        for wrong in samples.anything():
            with self.assertRaises(InvalidRewriting) as caught:
                follow(first=LEFT, second=wrong)
            self.assertEqual(caught.exception.thing, wrong)

    def test_returned_ones_are_taken_whatever_their_size(self):
        made = LEFT
        begin = time.monotonic()
        for _ in range(200):
            made = follow(made, LEFT)
        self.assertLess(time.monotonic() - begin, 20)
        state = (samples.chain(201, ("left",)), (), ())
        self.assertEqual(done(made, state)[0], ())
        self.assertEqual(nodes_of(done(made, state)), 201)
        self.assertIsNone(done(made, (samples.chain(200, ("left",)), (), ())))
        twice = (ANY, (("a", 0, 0), 1, 2))
        for _ in range(8):
            twice = follow(twice, (ANY, (("a", 0, 2), 1, 0)))
        self.assertIsNone(check_rewriting(twice))
        self.assertEqual(nodes_of(done(twice, ((), (), ()))), samples.flat(done(twice, ((), (), ()))).count("a"))


class RewritingsOfTest(unittest.TestCase):
    def test_each_command_for_all_small_states(self):
        for command in SIMPLE:
            found = rewritings_of(command)
            self.assertIsInstance(found, list)
            self.assertLessEqual(len(found), 2)
            for rewriting in found:
                self.assertIsNone(check_rewriting(rewriting))
            for state in STATES:
                self.assertEqual(models.do_list(found, state), run((command,), state), (command, state))

    def test_left(self):
        self.assertEqual(rewritings_of(command="left"), [LEFT])

    def test_lists_are_new(self):
        for command in SIMPLE:
            expected = rewritings_of(command)
            rewritings_of(command).clear()
            self.assertEqual(rewritings_of(command), expected)

    def test_wrong_commands(self):
        wrong = samples.anything() + ["no", "put", "else", "not", ("else", (), ()), ("not", ()), ("put",), ("put", "A"),
                                      ("put", "a", "b"), ["put", "a"], ("left",), ("is", ("a",)), ("up", "a"), ((), ())]
        for command in wrong:
            with self.assertRaises(InvalidCommand) as caught:
                rewritings_of(command)
            self.assertEqual(caught.exception.thing, command)


class ArgumentsTest(unittest.TestCase):
    def test_the_same_is_told_again(self):
        for first in REWRITINGS:
            for second in REWRITINGS[::3]:
                self.assertEqual(follow(copy.deepcopy(first), copy.deepcopy(second)), follow(first, second))
        for thing in samples.anything():
            kept = copy.deepcopy(thing)
            check_rewriting((ANY, thing))
            check_rewriting(thing)
            self.assertEqual(thing, kept)


if __name__ == "__main__":
    unittest.main()
