"""cursorscripts.search: the first script that does what another one does (points 1, 2 and 14)."""

import copy
import itertools
import random
import unittest

import models
import samples
from checks import RaisesCase, TimedCase, problem_of
from cursorscripts.alike import alike
from cursorscripts.commands import check_script
from cursorscripts.errors import InvalidCommands, InvalidCount, InvalidList, InvalidScript, TooMany
from cursorscripts.lists import list_of
from cursorscripts.search import shortest
from models import ANY
from test_alike import WRONG_LISTS, WRONG_SCRIPTS
from test_lists import EIGHT, SAME, SCRIPTS

# Of these there are 40 scripts of at most three commands, and all of them are first ones.
FREE = [("wrapleft", "a"), ("wrapright", "b"), ("wrapleft", "c")]
COMMANDS = ["left", "right", "up", "swap", "copy", "paste", "clear", "cut", "trade", "top", "rise", "full", ("put", "a"),
            ("set", "b"), ("is", "a"), ("isnot", "b"), ("wrapleft", "c"), ("not", ("up",)), ("not", (("is", "a"),)),
            ("else", ("left",), ()), ("else", (), ("up",)), ("not", ()), ("else", ("rise",), ())]


def first_ones(commands, most):
    """All first ones of at most so many commands, point 14 word by word."""
    found, left = [], []
    for many in range(most + 1):
        for script in itertools.product(commands, repeat=many):
            if any(script[:len(other)] == other for other in left):
                continue
            if any(alike(script, other) is None for other in found):
                left.append(script)
            else:
                found.append(script)
    return found


def first_alike(steps, commands, most):
    """What shortest should tell."""
    ones = first_ones(commands, most)
    for script in ones[:30]:
        if alike(steps, script) is None:
            return script
    return TooMany if len(ones) > 30 else None


def answer(steps, commands, most):
    try:
        return shortest(steps, commands, most)
    except TooMany:
        return TooMany


class ShortestTest(unittest.TestCase):
    def test_known_searches(self):
        for steps, commands, most, expected in (
                (("copy", "clear"), ["clear", "copy", "cut"], 3, ("cut",)), (("up",), ["left"], 2, None),
                (("top",), [("not", ("up",)), "top"], 1, (("not", ("up",)),)), (("top",), ["top", ("not", ("up",))], 1, ("top",)),
                ((), [], 0, ()), ((), [], 3, ()), (("up",), [], 3, None), ((), ["swap"], 3, ()), (("swap",), ["swap"], 0, None),
                (("full",), ["swap"], 2, ("swap", "swap")), (("full",), ["swap"], 1, None),
                (("full",), ["swap", "full"], 3, ("full",)), (("swap",) * 8, ["trade", "swap"], 2, ("swap", "swap")),
                (("trade",) * 8, ["trade", "swap"], 3, ()), (("left", "up"), ["right", "up"], 3, ("right", "up")),
                (("cut", "paste"), ["paste", "cut"], 2, ("cut", "paste")), (("cut", "paste"), ["cut", "paste", "copy"], 2, ("copy",)),
                (("left",) * 3, ["left", "right"], 3, ("left",) * 3), (("left",) * 4, ["left", "right"], 3, None),
                ((("not", ()),), ["top", "up"], 2, ("top", "up")), ((("not", ()),), ["up", "top", "inner"], 2, ("top", "up")),
                (("inner",), ["top", "swap"], 3, None)):
            self.assertEqual(shortest(steps, commands, most), expected, (steps, commands, most))
            self.assertEqual(shortest(steps, tuple(commands), most), expected)
            self.assertEqual(shortest(list_of(steps), commands, most), expected)

    def test_lists(self):
        self.assertEqual(shortest([SAME], ["swap"], 3), ())
        self.assertEqual(shortest([(ANY, (2, 1, 0))], ["swap", "trade"], 3), ("trade",))
        self.assertEqual(shortest([], ["top", ("not", ("top",))], 3), ("top", ("not", ("top",))))
        self.assertIsNone(shortest([(ANY, ((), (), ()))], ["clear", "copy"], 3))

    def test_going_through_all_scripts(self):
        r = random.Random(91)
        seen = {}
        for number in range(130):
            commands = r.sample(COMMANDS, r.choice((1, 2, 2, 3)))
            most = 2 if len(commands) == 3 and number % 4 else 3
            steps = tuple(r.choice(commands) for _ in range(r.randint(0, 3)))
            if number % 3 == 0:
                steps = models.random_script(r, r.randint(1, 4))
            expected = first_alike(steps, commands, most)
            self.assertEqual(answer(steps, commands, most), expected, (steps, commands, most))
            self.assertEqual(answer(list_of(steps), tuple(commands), most), expected)
            for fewer in range(most):
                if isinstance(expected, tuple):
                    self.assertEqual(shortest(steps, commands, fewer), expected if len(expected) <= fewer else None)
            seen[expected if expected in (None, TooMany, ()) else "other"] = True
        self.assertTrue({None, (), "other"} <= {*seen})

    def test_the_last_of_the_first_thirty_and_the_one_behind_it(self):
        ones = [script for many in range(4) for script in itertools.product(FREE, repeat=many)]
        self.assertEqual(first_ones(FREE, 2), ones[:13])
        self.assertEqual(first_ones(FREE, 3), ones)
        for number in range(40):
            self.assertEqual(answer(ones[number], FREE, 3), ones[number] if number < 30 else TooMany, number)
        for steps in (("up",), (), ones[13]):
            self.assertEqual(answer(steps, FREE, 2), () if steps == () else None)
        with self.assertRaises(TooMany):
            shortest(("up",), FREE, 3)
        with self.assertRaises(TooMany):
            shortest(list_of(ones[39]), FREE, 3)
        self.assertEqual(shortest(list_of(ones[29]), FREE, 3), ones[29])

    def test_just_thirty_first_ones_are_not_too_many(self):
        for commands, many in ((("left", "swap", "copy"), 29), (("left", "swap", "up"), 30), (("left", "swap", "paste"), 30),
                               (("left", "up", "cut"), 31), (("left", "up", "paste"), 31), (("up", "rise", "cut"), 33)):
            ones = first_ones(commands, 3)
            self.assertEqual(len(ones), many)
            expected = [script if number < 30 else TooMany for number, script in enumerate(ones)]
            self.assertEqual([answer(script, commands, 3) for script in ones], expected)
            self.assertEqual(answer(("inleft", "up", "up", "up"), commands, 3), TooMany if many > 30 else None)

    def test_by_name(self):
        self.assertEqual(shortest(most=1, commands=["cut"], steps=("copy", "clear")), ("cut",))


class ErrorsTest(RaisesCase):
    def test_steps_come_first(self):
        for wrong in WRONG_LISTS + WRONG_SCRIPTS + samples.anything():
            if problem_of(wrong) is not None:
                error = InvalidList if isinstance(wrong, list) else InvalidScript
                for commands, most in ((5, 5), ([5], 5), ([], 5), ([], 0)):
                    self.raises(error, {"problem": problem_of(wrong)}, shortest, wrong, commands, most)

    def test_commands(self):
        for commands, place in ((5, None), (None, None), ("left", None), ({"left": 1}, None), ({}, None), (True, None),
                                ([5], 0), (("left", "up", "no"), 2), (["left", "left"], 1), (("up", "left", "up", 5), 2),
                                ([("not", ()), ("not", ())], 1), ([("not", ()), ("not", []), ("not", ())], 1),
                                ([("put", "a"), ("put", "b"), ("put", "a")], 2), ([("put", "A")], 0), ((("left",),), 0),
                                ([["put", "a"]], 0), ([()], 0), (["left", "right", "up", "up"], 3), ("", None),
                                ([("else", (), ()), ("else", ()), "left"], 1), (["left"] * 2000, 1), ([True, True], 0)):
            for most in (5, 3, None):
                for steps in ((), [SAME], ("up",)):
                    self.raises(InvalidCommands, {"place": place}, shortest, steps, commands, most)

    def test_commands_may_be_anything(self):
        for thing in samples.anything():
            if not isinstance(thing, (tuple, list)):
                self.raises(InvalidCommands, {"place": None}, shortest, (), thing, 9)
            elif thing != []:
                wrong = [check_script((item,)) is not None or item in thing[:k] for k, item in enumerate(thing)]
                self.raises(InvalidCommands, {"place": wrong.index(True)}, shortest, (), thing, 9)
            self.raises(InvalidCommands, {"place": 1}, shortest, (), ["up", thing, thing], 9)
            self.raises(InvalidCommands, {"place": 0}, shortest, (), (thing, "up"), 9)

    def test_counts(self):
        for wrong in samples.anything() + [4, -1, 10 ** 99, "1", (1,), True, False, None]:
            if wrong.__class__ is int and 0 <= wrong <= 3:
                continue
            for commands in ([], FREE):
                self.raises(InvalidCount, {"most": wrong}, shortest, ("up",), commands, wrong)
        self.raises(InvalidCount, {"most": True}, shortest, (), [], True)

    def test_too_many_comes_last(self):
        self.raises(InvalidCount, {"most": 4}, shortest, ("up",), FREE, 4)
        self.raises(InvalidCommands, {"place": 3}, shortest, ("up",), FREE + [5], 3)
        self.raises(TooMany, {}, shortest, ("up",), FREE, 3)


class LimitsTest(TimedCase):
    def test_three_commands_of_two_each(self):
        r = random.Random(92)
        doubles = [("not", ("rise",)), ("else", ("rise",), ()), ("else", ("up",), ()), ("else", (("is", "a"),), ()),
                   ("not", (("isnot", "b"),)), ("else", ("swap",), ()), ("else", (), ("left",)), ("not", ("up",))]
        many = 0
        for number in range(60):
            commands = r.sample(doubles + ["rise", "up", "left", ("wrapleft", "a"), ("set", "c")], 3)
            steps = r.choice(EIGHT + [tuple(r.choice(commands) for _ in range(3))])
            many += self.quickly(answer, steps, commands, 3) == TooMany
        for steps in EIGHT:
            self.assertEqual(self.quickly(answer, steps, FREE, 3), TooMany)
            self.assertIn(self.quickly(answer, list_of(steps), ["rise", "up", "left"], 3), (None, ("left",) * 3, TooMany))
        self.assertGreater(many, 0)


class ArgumentsTest(unittest.TestCase):
    def test_arguments_stay_and_the_same_is_told_again(self):
        for steps in SCRIPTS:
            for commands in (["up", "left"], ["clear", ("put", "a")]):
                found, kept = list_of(steps), copy.deepcopy(commands)
                first = answer(found, commands, 3)
                self.assertEqual([found, commands], [list_of(steps), kept])
                self.assertEqual(answer(copy.deepcopy(found), kept, 3), first)


if __name__ == "__main__":
    unittest.main()
