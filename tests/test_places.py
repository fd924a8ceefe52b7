"""cursorscripts.places: local scripts, and scripts done at places of a tree (points 1, 2, 3 and 13)."""

import copy
import itertools
import random
import unittest

import models
import samples
from checks import RaisesCase, TimedCase, problem_of
from cursorscripts.alike import alike, check_list_of
from cursorscripts.commands import check_script, run
from cursorscripts.errors import InvalidList, InvalidPath, InvalidScript, InvalidTree
from cursorscripts.lists import both, check_list, either, list_of
from cursorscripts.making import script_of
from cursorscripts.places import check_far, done_at, far, sent
from cursorscripts.repeats import commute
from cursorscripts.trees import check_state, nodes_of, state_at, whole
from models import ANY, STATES, TREE, WAY
from test_alike import WRONG_LISTS, WRONG_SCRIPTS, made_of
from test_lists import EIGHT, ONE, SAME, SCRIPTS

LEAF = ("a", (), ())
FOCUSES = list({state[0]: True for state in STATES})
BY_FOCUS = {focus: [state for state in STATES if state[0] == focus] for focus in FOCUSES}
LOCAL = [
    (), ("swap",), ("clear",), ("liftleft",), ("left", "swap", "up"), (("put", "a"),), (("wrapleft", "a"), "right", "up"),
    ("full",), (("is", "a"), ("set", "b")), (("not", ()),), ("left", "right", "clear", "up", "up"), ("top", "up"),
    (("else", ("up",), ("top",)), ("not", ()), "clear"), ("left", "inleft", "inner", "up"), ("left", "rise"),
    (("not", (("not", ("left",)),)),), (("else", (("is", "a"), "swap"), (("isnot", "a"), "left", "up")),),
    (("else", ("top", "clear"), ("inner", "clear")),), (("else", ("left", "top"), ("swap",)),), ("trade", "trade"),
    (("else", ("inleft", "swap"), (("else", ("inright", "swap"), ("top", "swap")),)),), ("right", "rise", "swap"),
    (("else", (("not", ("rise",)),), ()), "swap"), (("wrapright", "a"), "liftright"),
]
FAR = [
    ("left",), ("up",), ("copy",), ("cut",), ("trade",), ("paste",), ("rise",), ("top",), ("inner",), ("inleft",),
    ("left", "copy", "up"), (("else", ("up",), ()),), (("else", ("top",), ("clear",)),), ("swap", "top"), ("left", "up", "up"),
    (("else", ("top", ("set", "a")), (("set", "b"),)),), ("trade", "full", "trade"), ("trade", "left", "up", "trade"),
    (("else", ("trade", ("is", "a"), "trade"), ("clear",)),), ("copy", "clear"), ("trade", "clear", "trade"),
]


def shows(steps, one, other):
    """Whether two states with equal focus show that a script or list is not local, point 13 word by word."""
    made, two = made_of(steps, one), made_of(steps, other)
    if made is None or two is None:
        return not (made is None and two is None)
    return not (made[0] == two[0] and made[1:] == one[1:] and two[1:] == other[1:])


def small_pair(steps):
    """A pair of small states that shows that it is not local, if there is one."""
    for alike_ones in BY_FOCUS.values():
        for state in alike_ones:
            if shows(steps, state, state):
                return (state, state)
            if shows(steps, alike_ones[0], state):
                return (alike_ones[0], state)
    return None


class FarTest(unittest.TestCase):
    def check(self, steps):
        found = far(steps)
        if found is None:
            self.assertIsNone(small_pair(steps), steps)
            return None
        self.assertTrue(isinstance(found, tuple) and len(found) == 2, found)
        self.assertEqual([check_state(state) for state in found], [None, None])
        self.assertEqual(found[0][0], found[1][0])
        self.assertTrue(shows(steps, *found), (steps, found))
        self.assertLessEqual(max(nodes_of(state) for state in found), 1000)
        self.assertIs(check_far(steps, found), True)
        return found

    def test_known_scripts(self):
        for steps in LOCAL:
            self.assertIsNone(self.check(steps), steps)
            self.assertIsNone(self.check(list_of(steps)), steps)
        for steps in FAR:
            self.assertIsNotNone(self.check(steps), steps)
            self.assertIsNotNone(self.check(list_of(steps)), steps)

    def test_scripts(self):
        for steps in SCRIPTS + EIGHT:
            self.check(steps)
            self.check(list_of(steps))

    def test_random_scripts(self):
        r = random.Random(81)
        words = ("left", "right", "up", "up", "swap", "clear", "full", "empty", "liftleft", "rise", "copy", "trade", "top",
                 ("set", "a"), ("put", "b"), ("is", "a"), ("isnot", "b"), ("wrapleft", "a"))
        local = 0
        for number in range(1500):
            steps = models.random_script(r, r.randint(1, 6))
            if number % 2:
                steps = tuple(r.choice(words) for _ in range(r.randint(1, 6)))
            if r.random() < 0.4:
                steps = ("left",) + steps + ("up",)
            if r.random() < 0.3:
                steps = (("else", steps[:2], steps[2:]),)
            local += self.check(steps) is None
        self.assertGreater(local, 300)

    def test_local_scripts_are_those_for_which_way_and_hand_are_all_one(self):
        # Told by other parts of the package, for all states: it does the same to the focus when way and hand are
        # dropped, and way and hand are then what they are where it just works.
        only_focus, without_focus = [(ANY, (0, (), ()))], [(ANY, ((), 1, 2))]
        r = random.Random(85)
        local = 0
        for number in range(400):
            steps = models.random_script(r, r.randint(1, 6))
            steps = ("left",) + steps + ("up",) if number % 2 else (("else", ("inleft",) + steps, steps),)
            works_there = list_of((("not", (("not", steps),)),))
            expected = (commute(steps, only_focus) is None
                        and alike(both(list_of(steps), without_focus), both(works_there, without_focus)) is None)
            self.assertEqual(far(steps) is None, expected, steps)
            local += expected
        self.assertGreater(local, 100)

    def test_random_lists(self):
        r = random.Random(82)
        local, tried = 0, 0
        while tried < 500:
            found = []
            for _ in range(r.randint(1, 3)):
                pattern = r.choice(models.PATTERNS) if r.random() < 0.5 else models.random_pattern(r, r.randint(0, 3))
                if r.random() < 0.4:
                    pattern = (pattern[0], WAY, TREE)
                kept = models.same(pattern)[1]
                focus = r.choice((kept[0], models.random_template(r, 2, (pattern[0], (), ()))[0], ()))
                found.append((pattern, (focus,) + kept[1:] if r.random() < 0.8 else models.random_template(r, 2, pattern)))
            if check_list(found) is None:
                tried += 1
                local += self.check(found) is None
        self.assertGreater(local, 30)

    def test_lists(self):
        # All cases together do the same, whatever the way is.
        ways = [("left", (), TREE, WAY), ("right", ("a",), TREE, WAY), ("right", "a", TREE, WAY), ()]
        parts = [models.same((TREE, way, TREE)) for way in ways]
        self.assertIsNone(self.check(parts))
        for number in range(4):
            others = parts[:number] + parts[number + 1:]
            self.assertIsNotNone(self.check(others))
            pattern, template = parts[number]
            self.assertIsNotNone(self.check(others + [(pattern, ((),) + template[1:])]))
        self.assertIsNone(self.check([(pattern, ((),) + template[1:]) for pattern, template in parts]))
        self.assertIsNone(self.check([]))
        self.assertIsNone(self.check([SAME]))
        self.assertIsNotNone(self.check([ONE]))
        # The focus is made of what is in the way, or in the hand, or known of them.
        self.assertIsNotNone(self.check([((TREE, ("left", (), TREE, WAY), TREE), (2, ("left", 1, 2, 3), 4)),
                                         ((TREE, ("right", (), TREE, WAY), TREE), (2, ("right", 1, 2, 3), 4)),
                                         ((TREE, (), TREE), (0, (), 1))]))
        self.assertIsNotNone(self.check([(ANY, (2, 1, 2))]))
        label = ((((), TREE, TREE), ("left", (), TREE, WAY), TREE), ((3, 1, 2), ("left", 3, 4, 5), 6))
        self.assertIsNotNone(self.check([label]))
        self.assertIsNotNone(self.check([(((), WAY, ()), ((), 0, ())), (((), WAY, ((), TREE, TREE)), (LEAF, 0, (1, 2, 3)))]))
        self.assertIsNone(self.check([(((), WAY, ()), (LEAF, 0, ())), (((), WAY, ((), TREE, TREE)), (LEAF, 0, (1, 2, 3)))]))
        # Way and hand are exchanged for equal ones only.
        self.assertIsNone(self.check([((TREE, WAY, ()), (0, 1, ())), ((TREE, WAY, ((), TREE, TREE)), (0, 1, (2, 3, 4)))]))
        self.assertIsNotNone(self.check([((TREE, WAY, ()), (0, 1, ())), ((TREE, WAY, ((), TREE, TREE)), (0, 1, (2, 4, 3)))]))

    def test_local_scripts_at_places_that_are_apart(self):
        tree = ("a", ("b", LEAF, ("c", (), LEAF)), ("b", (), ("a", LEAF, ())))
        places = [("left",), ("right",), ("left", "left"), ("left", "right"), ("right", "right", "left")]
        for one, two in itertools.permutations(places, 2):
            if one[:len(two)] == two or two[:len(one)] == one:
                continue
            for first in LOCAL[:12]:
                for second in LOCAL[:12]:
                    made, other = done_at(tree, one, first), done_at(tree, two, second)
                    made = None if made is None else done_at(made, two, second)
                    other = None if other is None else done_at(other, one, first)
                    self.assertEqual(made, other)

    def test_example(self):
        self.assertIsNone(far(steps=("left", "swap", "up")))


class CheckFarTest(unittest.TestCase):
    def test_all_small_pairs(self):
        small = [state for state in STATES if nodes_of(state) < 2]
        for steps in LOCAL[:6] + FAR:
            for one in small:
                for other in small:
                    expected = one[0] == other[0] and shows(steps, one, other)
                    self.assertIs(check_far(steps, (one, other)), expected)
                    self.assertIs(check_far(list_of(steps), (one, other)), expected)

    def test_a_state_taken_twice(self):
        state = (LEAF, ("left", "b", (), ()), ("c", (), ()))
        for steps in FAR:
            self.assertIs(check_far(steps, (state, state)), shows(steps, state, state))
        self.assertIs(check_far(steps=("cut",), thing=(state, state)), True)
        self.assertIs(check_far(("up",), (state, state)), True)
        # It fails for both.
        self.assertIs(check_far(("top",), (state, state)), False)
        self.assertIs(check_far(("inner",), (state, state)), False)

    def test_what_is_no_pair_of_states_with_equal_focus(self):
        state, other = ((), (), ()), ((), ("left", "a", (), ()), ())
        self.assertIs(check_far(("up",), (state, other)), True)
        for thing in samples.anything() + [[state, other], (state,), (state, other, other), (list(state), other), state,
                                           (state, ((), WAY, ())), (state, None), (state, (LEAF,) + other[1:])]:
            self.assertIs(check_far(("up",), thing), False)
            self.assertIs(check_far(list_of(("up",)), thing), False)
            if check_state(thing) is not None:
                self.assertIs(check_far(("up",), (other, thing)), False)
                self.assertIs(check_far(("up",), (thing, other)), False)


class DoneAtTest(RaisesCase):
    def test_it_does_what_run_does(self):
        trees = [tree for nodes in range(4) for tree in samples.trees(nodes, ("a", "b"))]
        for steps in SCRIPTS + [("rise",), ("paste",), ("cut",), (("wrapright", "c"), "left")]:
            found = list_of(steps)
            for tree in trees[::3]:
                for path in ((), ("left",), ("right",), ("left", "right"), ("right", "left"), ["left", "left"]):
                    try:
                        state = state_at(tree, path)
                    except InvalidPath as wrong:
                        for what in (steps, found):
                            with self.assertRaises(InvalidPath) as caught:
                                done_at(tree, path, what)
                            self.assertEqual(caught.exception.place, wrong.place)
                        continue
                    made = run(steps, state)
                    expected = None if made is None else whole(made)
                    self.assertEqual(done_at(tree, path, steps), expected)
                    self.assertEqual(done_at(tree, path, found), expected)

    def test_the_empty_path_and_an_empty_hand(self):
        self.assertEqual(done_at((), (), ()), ())
        self.assertEqual(done_at(LEAF, [], ("paste",)), ())
        self.assertEqual(done_at(LEAF, ("right",), ("paste",)), LEAF)
        self.assertIsNone(done_at(LEAF, ("right",), ("swap",)))
        self.assertEqual(done_at(steps=("up", "swap"), path=("right",), tree=("a", LEAF, ())), ("a", (), LEAF))

    def test_example(self):
        self.assertEqual(done_at(("a", ("b", (), ()), ()), ("left",), (("wrapright", "c"),)), ("a", ("c", (), ("b", (), ())), ()))

    def test_deep_trees(self):
        tree = samples.chain(60, ("left", "right"), "b")
        path = []
        focus = tree
        while focus != ():
            side = "left" if focus[1] != () else "right"
            path.append(side)
            focus = focus[1] if side == "left" else focus[2]
        self.assertEqual(len(path), 60)
        made = done_at(tree, path, (("put", "c"),))
        self.assertEqual(nodes_of((made, (), ())), 61)
        self.assertEqual(done_at(made, tuple(path), list_of(("clear",))), tree)

    def test_errors_in_their_order(self):
        for wrong in WRONG_LISTS + WRONG_SCRIPTS:
            for tree, path in ((5, 5), (LEAF, ()), (LEAF, 5)):
                error = InvalidList if isinstance(wrong, list) else InvalidScript
                self.raises(error, {"problem": problem_of(wrong)}, done_at, tree, path, wrong)
        for steps in ((), [SAME], (("not", ()),), ("up",)):
            for wrong in samples.anything():
                self.raises(InvalidTree, {"thing": wrong}, done_at, wrong, 5, steps)
            for path, place in ((5, None), ("left", None), ({"left": 1}, None), (None, None), (("left", "left"), 1),
                                (("up",), 0), (["left", 5], 1), (("right", ["left"], 7), 1), ((True,), 0)):
                self.raises(InvalidPath, {"place": place}, done_at, LEAF, path, steps)
            self.raises(InvalidPath, {"place": 0}, done_at, (), ("left", 5), steps)


class SentTest(RaisesCase):
    def test_scripts(self):
        self.assertEqual(sent(("swap",), ("left",)), ("left", "swap", "up"))
        self.assertEqual(sent((), []), ())
        self.assertEqual(sent(steps=("cut", "up"), path=["right", "left"]), ("right", "left", "cut", "up", "up", "up"))
        for steps in SCRIPTS:
            self.assertEqual(sent(steps, ()), steps)
            self.assertEqual(sent(steps, ("left",) * 10), ("left",) * 10 + steps + ("up",) * 10)

    def test_it_does_what_the_script_does_there(self):
        for steps in SCRIPTS + LOCAL[:15]:
            for path in ((), ("left",), ("right", "left")):
                script = sent(steps, path)
                self.assertIsNone(check_script(script))
                for state in STATES:
                    here = run(path, state)
                    made = None if here is None else run(steps, here)
                    self.assertEqual(run(script, state), None if made is None else run(("up",) * len(path), made))

    def test_sent_local_scripts_are_local(self):
        for steps in LOCAL:
            for path in (("left",), ("right", "left"), ("left", "right") * 5):
                self.assertIsNone(far(sent(steps, path)))
                self.assertIsNone(check_list_of(sent(steps, path), list_of(sent(steps, path))))

    def test_there_and_back_of_places(self):
        tree = ("a", ("b", LEAF, ()), ("c", (), LEAF))
        for steps in LOCAL:
            for path in (("left",), ("right",), ("left", "left"), ("right", "right")):
                made = run(sent(steps, path), (tree, (), ()))
                self.assertEqual(None if made is None else whole(made), done_at(tree, path, steps))

    def test_errors_in_their_order(self):
        for wrong in WRONG_SCRIPTS + WRONG_LISTS + [[], [SAME], ["left"]]:
            for path in (5, (5,), ("left",)):
                self.raises(InvalidScript, {"problem": check_script(wrong)}, sent, wrong, path)
        self.raises(InvalidScript, {"problem": ()}, sent, list_of(("swap",)), ("left",))
        for wrong in samples.anything():
            if not isinstance(wrong, (tuple, list)):
                self.raises(InvalidPath, {"place": None}, sent, ("swap",), wrong)
            for path in ((wrong,), [wrong, "left"], ("left", wrong), ["right", "left", wrong, 5]):
                place = [side in ("left", "right") for side in path].index(False)
                self.raises(InvalidPath, {"place": place}, sent, (), path)


class ErrorsTest(RaisesCase):
    def test_wrong_steps(self):
        for wrong in WRONG_LISTS + WRONG_SCRIPTS + samples.anything():
            if problem_of(wrong) is None:
                continue
            error, fields = InvalidList if isinstance(wrong, list) else InvalidScript, {"problem": problem_of(wrong)}
            self.raises(error, fields, far, wrong)
            for thing in (5, (STATES[0], STATES[0])):
                self.raises(error, fields, check_far, wrong, thing)


class LimitsTest(TimedCase):
    def test_eight_commands(self):
        r = random.Random(83)
        looking = [(("not", ("up",) * 7),), (("else", (("not", ("up",) * 3), ("not", ())), ()), "swap"),
                   (("else", (("not", ("up",) * 6),), ()),), (("else", (("not", ("rise",) * 6),), ()),),
                   (("not", (("not", ("left",) * 3 + ("up",) * 3),)),)]
        for steps in EIGHT + looking + [models.random_script(r, 8) for _ in range(100)]:
            self.assertIsNone(check_script(steps))
            pair = self.quickly(far, steps)
            self.assertEqual(pair is None, self.quickly(far, list_of(steps)) is None)
            if pair is not None:
                self.assertIs(self.quickly(check_far, steps, pair), True)
                self.assertIs(self.quickly(check_far, list_of(steps), pair), True)

    def test_what_sent_and_script_of_returned(self):
        r = random.Random(84)
        for steps in EIGHT + LOCAL + [models.random_script(r, 8) for _ in range(30)]:
            script = sent(steps, ("left", "right") * 5)
            pair = self.quickly(far, script)
            self.assertTrue(pair is None or check_far(script, pair) is True)
            self.assertIsNone(self.quickly(alike, script, self.quickly(list_of, script)))
        for steps in [("rise",) * 4, ("up",) * 4, ("swap",), (), ("left", "swap", "up"), (("else", ("top",), ("inner",)), "swap")]:
            script = script_of(list_of(steps))
            pair = self.quickly(far, script)
            self.assertEqual(pair is None, far(steps) is None)
            self.assertTrue(pair is None or check_far(steps, pair) is True)

    def test_long_states(self):
        state = (samples.chain(20, ("left",)), samples.long_way(20, ("right", "left")), samples.chain(20, ("right",)))
        other = (state[0], (), ())
        self.assertIs(check_far(("up",) * 8, (state, other)), True)
        self.assertIs(check_far(("left",) * 4 + ("up",) * 4, (state, other)), False)


class ArgumentsTest(unittest.TestCase):
    def test_arguments_stay_and_the_same_is_told_again(self):
        pair = (((), (), ()), ((), ("left", "a", (), ()), ()))
        for steps in SCRIPTS[::2]:
            found, path = list_of(steps), ["left"]
            kept = copy.deepcopy(found)
            tree = ("a", LEAF, LEAF)
            first = [far(found), check_far(found, pair), done_at(tree, path, found), sent(steps, path)]
            self.assertEqual([found, path], [kept, ["left"]])
            self.assertEqual([far(kept), check_far(kept, pair), done_at(tree, ["left"], kept), sent(steps, ("left",))], first)

    def test_lists_that_were_made(self):
        swap, clear = list_of(("swap",)), list_of(("clear",))
        for found in (both(swap, clear), either(swap, clear)):
            self.assertIsNone(far(found))


if __name__ == "__main__":
    unittest.main()
