"""cursorscripts.desk: states by names, deeds, and taking back (points 1, 2, 4 and 16)."""

import copy
import random
import time
import unittest

import models
import samples
from checks import RaisesCase
from cursorscripts.commands import check_script, run
from cursorscripts.desk import Desk
from cursorscripts.errors import (
    CursorError, Failed, InvalidName, InvalidNumber, InvalidScript, InvalidState, Needed, NoSuchName, NothingToUndo,
)
from cursorscripts.trees import check_state
from models import STATES
from test_lists import SAME, SCRIPTS

EMPTY, LEAF = ((), (), ()), (("a", (), ()), (), ())
INNER = (("a", (), ()), ("left", "b", ("c", (), ()), ()), ("d", (), ()))
NAMES = ("a", "b", "left", "abcdefgh")
WRONG_NAMES = ["", "A", "aB", "abcdefghi", "a1", "a b", " a", "a\n", None, True, 1, ("a",), ["a"], {"a": 1}, b"a", ()]


def all_of(desk):
    """All that a desk tells."""
    return ([(name, desk.state(name)) for name in desk.names()], desk.deeds())


class DeskCase(RaisesCase):
    def desk(self, *deeds, states=(("a", EMPTY),)):
        desk = Desk()
        for name, state in states:
            desk.put(name, state)
        for name, steps in deeds:
            self.assertIsNone(desk.do(name, steps))
        return desk


class KeepingTest(DeskCase):
    def test_no_states_at_first(self):
        desk = Desk()
        self.assertEqual(all_of(desk), ([], []))
        self.raises(NothingToUndo, {}, desk.undo)
        for name in NAMES:
            self.raises(NoSuchName, {"name": name}, desk.state, name)

    def test_put_and_drop(self):
        desk = Desk()
        for name in ("b", "abcdefgh", "a", "left"):
            self.assertIsNone(desk.put(name, LEAF))
        self.assertEqual(desk.names(), ["a", "abcdefgh", "b", "left"])
        self.assertIsNone(desk.put("b", EMPTY))
        self.assertEqual([desk.state("b"), desk.state("a")], [EMPTY, LEAF])
        self.assertIsNone(desk.drop("a"))
        self.assertEqual(desk.names(), ["abcdefgh", "b", "left"])
        self.raises(NoSuchName, {"name": "a"}, desk.state, "a")
        self.raises(NoSuchName, {"name": "a"}, desk.drop, "a")
        self.raises(NoSuchName, {"name": "a"}, desk.do, "a", ())

    def test_desks_are_apart(self):
        one, other = self.desk(("a", ("copy",))), Desk()
        self.assertEqual(all_of(other), ([], []))
        self.raises(NothingToUndo, {}, other.undo)
        other.put("a", LEAF)
        self.assertEqual(one.state("a"), EMPTY)
        one.drop("a")
        self.assertEqual(other.names(), ["a"])

    def test_do(self):
        desk = self.desk(states=(("a", LEAF), ("b", EMPTY)))
        desk.do("a", (("wrapleft", "c"), "left"))
        desk.do("b", ())
        desk.do("a", (("else", ("left", "left"), (("set", "x"),)),))
        self.assertEqual(desk.state("a"), (("x", (), ()), ("left", "c", (), ()), ()))
        self.assertEqual(desk.deeds(), [("a", (("wrapleft", "c"), "left")), ("b", ()),
                                        ("a", (("else", ("left", "left"), (("set", "x"),)),))])
        for steps in SCRIPTS:
            for state in STATES[::9]:
                desk = self.desk(states=(("a", state),))
                if run(steps, state) is None:
                    self.raises(Failed, {"name": "a"}, desk.do, "a", steps)
                    self.assertEqual(all_of(desk), ([("a", state)], []))
                else:
                    desk.do("a", steps)
                    self.assertEqual(all_of(desk), ([("a", run(steps, state))], [("a", steps)]))

    def test_deeds_of_a_name_that_is_put_anew_or_dropped(self):
        for end in ("put", "drop"):
            desk = self.desk(("a", ("copy",)), ("b", ("copy", "cut")), ("a", ("top",)), states=(("a", LEAF), ("b", LEAF)))
            if end == "put":
                desk.put("a", LEAF)
            else:
                desk.drop("a")
            self.assertEqual(desk.deeds(), [("b", ("copy", "cut"))])
            desk.undo()
            self.assertEqual(desk.deeds(), [("a", ("copy",)), ("b", ("copy", "cut")), ("a", ("top",))])
            self.assertEqual(desk.state("a")[2], LEAF[0])
        # Another name's deeds stay, also behind the same state.
        desk.put("c", LEAF)
        self.assertEqual(len(desk.deeds()), 3)

    def test_by_name(self):
        desk = Desk()
        desk.put(state=LEAF, name="a")
        desk.do(steps=("copy",), name="a")
        self.assertEqual(desk.state(name="a"), (LEAF[0], (), LEAF[0]))
        desk.leave_out(number=0)
        desk.drop(name="a")
        self.assertEqual(desk.names(), [])


class LeaveOutTest(DeskCase):
    def test_examples(self):
        desk = self.desk(("d", (("set", "b"),)), ("d", (("wrapleft", "c"),)), states=(("d", LEAF),))
        self.assertIsNone(desk.leave_out(0))
        self.assertEqual([desk.state("d"), desk.deeds()], [(("c", ("a", (), ()), ()), (), ()), [("d", (("wrapleft", "c"),))]])
        desk = self.desk(("d", ("left",)), ("d", ("up",)), states=(("d", LEAF),))
        self.raises(Needed, {"number": 1}, desk.leave_out, 0)
        self.assertEqual(all_of(desk), ([("d", LEAF)], [("d", ("left",)), ("d", ("up",))]))

    def test_the_last_and_the_only_deed(self):
        desk = self.desk(("a", (("put", "x"),)), ("a", ("clear",)))
        desk.leave_out(1)
        self.assertEqual(all_of(desk), ([("a", (("x", (), ()), (), ()))], [("a", (("put", "x"),))]))
        desk.leave_out(0)
        self.assertEqual(all_of(desk), ([("a", EMPTY)], []))

    def test_deeds_of_other_names_between(self):
        desk = self.desk(("b", ("copy",)), ("a", (("put", "x"),)), ("b", ("cut",)), ("a", ("copy",)), ("b", ("paste",)),
                         ("a", ("left",)), ("a", ("up",)), ("b", ("clear",)), states=(("a", EMPTY), ("b", LEAF)))
        before = all_of(desk)
        # The copy works without the node, but to go to its child does not.
        self.raises(Needed, {"number": 5}, desk.leave_out, 1)
        self.raises(Needed, {"number": 6}, desk.leave_out, 5)
        self.assertEqual(all_of(desk), before)
        desk.leave_out(3)
        self.assertEqual(desk.state("a"), (("x", (), ()), (), ()))
        # They are numbered anew.
        self.raises(Needed, {"number": 4}, desk.leave_out, 1)
        desk.leave_out(2)
        self.assertEqual(desk.state("b"), ((), (), LEAF[0]))
        self.raises(Needed, {"number": 3}, desk.leave_out, 1)
        self.assertEqual([name for name, _ in desk.deeds()], ["b", "a", "b", "a", "a", "b"])

    def test_deeds_are_done_again_one_after_the_other(self):
        desk = self.desk(("a", (("put", "x"),)), ("a", (("else", ("left",), ()),)), ("a", (("wrapright", "y"),)))
        self.assertEqual(desk.state("a"), (("y", (), ()), ("left", "x", (), ()), ()))
        desk.leave_out(0)
        self.assertEqual(desk.state("a"), (("y", (), ()), (), ()))
        # What is left out next begins at the state that it has now.
        desk.leave_out(1)
        self.assertEqual(all_of(desk), ([("a", EMPTY)], [("a", (("else", ("left",), ()),))]))

    def test_a_deed_begun_at_the_state_ahead_of_it(self):
        desk = self.desk(("a", (("wrapleft", "b"),)), ("a", ("copy",)), ("a", (("set", "c"),)), states=(("a", LEAF),))
        desk.leave_out(1)
        self.assertEqual(desk.state("a"), (("c", LEAF[0], ()), (), ()))
        desk.leave_out(0)
        self.assertEqual(desk.state("a"), (("c", (), ()), (), ()))
        desk.undo()
        self.assertEqual(desk.state("a"), (("c", LEAF[0], ()), (), ()))

    def test_numbers(self):
        desk = self.desk(("a", ()), ("a", ()))
        for wrong in samples.anything() + [2, -1, 10 ** 99, True, False, "0", (0,), [0], None]:
            if not (wrong.__class__ is int and 0 <= wrong < 2):
                self.raises(InvalidNumber, {"number": wrong}, desk.leave_out, wrong)
        self.raises(InvalidNumber, {"number": 0}, Desk().leave_out, 0)
        self.assertEqual(len(desk.deeds()), 2)


class UndoTest(DeskCase):
    def test_each_call(self):
        desk = Desk()
        seen = [all_of(desk)]
        for call in (lambda: desk.put("a", EMPTY), lambda: desk.do("a", (("put", "x"),)), lambda: desk.put("b", LEAF),
                     lambda: desk.do("b", ("copy",)), lambda: desk.do("a", ("copy", "clear")), lambda: desk.leave_out(1),
                     lambda: desk.put("a", INNER), lambda: desk.do("a", ("up",)), lambda: desk.drop("b"), lambda: desk.leave_out(0),
                     lambda: desk.drop("a"), lambda: desk.put("a", LEAF)):
            self.assertIsNone(call())
            seen.append(all_of(desk))
        for number in range(len(seen) - 2, -1, -1):
            self.assertIsNone(desk.undo())
            self.assertEqual(all_of(desk), seen[number], number)
        self.raises(NothingToUndo, {}, desk.undo)
        self.assertEqual(all_of(desk), ([], []))

    def test_calls_that_raised_an_error_are_not_taken_back(self):
        desk = self.desk(("a", (("put", "x"),)), ("a", ("left",)))
        for call, arguments in ((desk.put, ("A", EMPTY)), (desk.put, ("a", 5)), (desk.drop, ("b",)), (desk.do, ("a", ("swap",))),
                                (desk.do, ("a", 5)), (desk.do, ("b", ())), (desk.leave_out, (0,)), (desk.leave_out, (7,)),
                                (desk.state, ("b",))):
            with self.assertRaises(CursorError):
                call(*arguments)
        desk.names(), desk.deeds(), desk.state("a")
        desk.undo()
        self.assertEqual(all_of(desk), ([("a", (("x", (), ()), (), ()))], [("a", (("put", "x"),))]))
        with self.assertRaises(Failed):
            desk.do("a", ("up",))
        desk.undo()
        desk.undo()
        self.raises(NothingToUndo, {}, desk.undo)

    def test_undo_is_not_taken_back(self):
        desk = self.desk(("a", (("put", "x"),)), ("a", ("copy",)))
        desk.undo()
        desk.undo()
        self.assertEqual(all_of(desk), ([("a", EMPTY)], []))
        desk.do("a", (("put", "y"),))
        desk.undo()
        self.assertEqual(all_of(desk), ([("a", EMPTY)], []))
        desk.undo()
        self.assertEqual(desk.names(), [])
        self.raises(NothingToUndo, {}, desk.undo)
        desk.put("b", LEAF)
        self.assertEqual(desk.names(), ["b"])

    def test_a_deed_that_was_left_out_is_there_again(self):
        desk = self.desk(("a", (("put", "x"),)), ("a", ("copy",)), ("a", (("else", ("left",), ()),)))
        whole = all_of(desk)
        desk.leave_out(0)
        desk.undo()
        self.assertEqual(all_of(desk), whole)
        desk.leave_out(1)
        self.assertEqual(desk.state("a"), ((), ("left", "x", (), ()), ()))


class ErrorsTest(DeskCase):
    def test_names(self):
        desk = self.desk(("a", ("copy",)))
        for name in WRONG_NAMES + samples.anything() + ["b", "aa"]:
            for steps in ((), 5, ("no",), [SAME]):
                self.raises(NoSuchName, {"name": name}, desk.do, name, steps)
            self.raises(NoSuchName, {"name": name}, desk.drop, name)
            self.raises(NoSuchName, {"name": name}, desk.state, name)
            if name not in ("b", "aa"):
                for state in (EMPTY, 5, ((), ())):
                    self.raises(InvalidName, {"name": name}, desk.put, name, state)
        self.assertEqual(all_of(desk), ([("a", EMPTY)], [("a", ("copy",))]))

    def test_states(self):
        desk = self.desk()
        for thing in samples.anything() + [list(EMPTY), (), LEAF[0], models.ANY]:
            if check_state(thing) is not None:
                for name in ("a", "b"):
                    self.raises(InvalidState, {"thing": thing}, desk.put, name, thing)
        self.assertEqual(all_of(desk), ([("a", EMPTY)], []))

    def test_scripts(self):
        desk = self.desk()
        for wrong in samples.anything() + [[], [SAME], ["copy"], "copy", ("copy", "no"), ("up", "no"), (("not", ("left", 5)),)]:
            if check_script(wrong) is not None:
                self.raises(InvalidScript, {"problem": check_script(wrong)}, desk.do, "a", wrong)
        self.raises(Failed, {"name": "a"}, desk.do, "a", ("up",))
        self.assertEqual(all_of(desk), ([("a", EMPTY)], []))


class ModelTest(DeskCase):
    def again(self, begun, deeds):
        """The states that deeds make, begun at these states; the place of the first that fails, if one does."""
        states = dict(begun)
        for place, (name, steps) in deeds:
            states[name] = run(steps, states[name])
            if states[name] is None:
                return place
        return states

    def step(self, r, desk, model):
        """One call on a desk, and on what it should be: states as they were put, and deeds."""
        begun, deeds = model
        call = r.choice(("put", "drop", "do", "do", "do", "do", "leave_out", "leave_out"))
        name = r.choice(NAMES)
        if call == "put":
            state = r.choice(STATES)
            desk.put(name, state)
            return ({**begun, name: state}, [deed for deed in deeds if deed[0] != name])
        if call == "drop" and name in begun:
            desk.drop(name)
            return ({kept: begun[kept] for kept in begun if kept != name}, [deed for deed in deeds if deed[0] != name])
        if call == "do" and name in begun and len(deeds) < 12:
            steps = models.random_script(r, r.randint(0, 3))
            if self.again(begun, list(enumerate(deeds + [(name, steps)]))) == len(deeds):
                self.raises(Failed, {"name": name}, desk.do, name, steps)
                return None
            desk.do(name, steps)
            return (begun, deeds + [(name, steps)])
        if call == "leave_out" and deeds:
            number = r.randrange(len(deeds))
            numbered = list(enumerate(deeds))
            made = self.again(begun, numbered[:number] + numbered[number + 1:])
            if isinstance(made, int):
                self.raises(Needed, {"number": made}, desk.leave_out, number)
                return None
            desk.leave_out(number)
            return (begun, deeds[:number] + deeds[number + 1:])
        return None

    def test_random_calls(self):
        r = random.Random(131)
        for _ in range(60):
            desk, past = Desk(), [({}, [])]
            for _ in range(60):
                if r.random() < 0.15 and len(past) > 1:
                    desk.undo()
                    past.pop()
                else:
                    model = self.step(r, desk, past[-1])
                    if model is not None:
                        past.append(model)
                begun, deeds = past[-1]
                states = self.again(begun, list(enumerate(deeds)))
                self.assertEqual(all_of(desk), (sorted(states.items()), deeds))
            for _ in range(len(past) - 1):
                desk.undo()
            self.raises(NothingToUndo, {}, desk.undo)
            self.assertEqual(all_of(desk), ([], []))


class ArgumentsTest(DeskCase):
    def test_lists_are_new(self):
        desk = self.desk(("a", ("copy",)), ("a", ("cut",)))
        before = all_of(desk)
        desk.names().append("b")
        desk.deeds().clear()
        changed = desk.deeds()
        changed[0] = 5
        self.assertEqual(all_of(desk), before)
        desk.leave_out(0)
        desk.deeds().append(("a", ()))
        desk.undo()
        self.assertEqual(all_of(desk), before)
        self.assertTrue(all(isinstance(deed, tuple) and len(deed) == 2 for deed in desk.deeds()))

    def test_arguments_stay(self):
        desk = Desk()
        state, steps = copy.deepcopy(INNER), ("up", ("else", ("up",), ("swap",)))
        desk.put("a", state)
        desk.do("a", steps)
        self.assertEqual([state, steps], [INNER, ("up", ("else", ("up",), ("swap",)))])
        desk.undo()
        self.assertEqual(desk.state("a"), INNER)

    def test_twelve_deeds_and_large_states(self):
        state = (samples.chain(20, ("left",)), samples.long_way(20, ("left", "right")), samples.full_tree(4))
        begin = time.monotonic()
        desk = self.desk(*[("a", ("left",))] * 4, *[("b", ("up", "copy"))] * 4, *[("a", ("up", "copy"))] * 4,
                         states=(("a", state), ("b", state)))
        before = all_of(desk)
        for number in range(12):
            desk.leave_out(number)
            self.assertEqual(len(desk.deeds()), 11)
            desk.undo()
            self.assertEqual(all_of(desk), before)
        for _ in range(300):
            desk.put("c", state)
            desk.do("c", ("left",) * 8)
        for _ in range(600):
            desk.undo()
        self.assertEqual(all_of(desk), before)
        self.assertLess(time.monotonic() - begin, 4)


if __name__ == "__main__":
    unittest.main()
