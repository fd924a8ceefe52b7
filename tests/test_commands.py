"""cursorscripts.commands: scripts, what they do, and their mirrors (points 1, 2, 4 and 10)."""

import copy
import unittest

import samples
from cursorscripts.commands import check_script, mirrored, run
from cursorscripts.errors import InvalidScript, InvalidState
from cursorscripts.trees import check_state, is_tree, mirror_of, nodes_of, path_of, state_at, whole

WORDS = ("left", "right", "up", "clear", "cut", "copy", "paste", "trade", "swap", "liftleft", "liftright", "rise",
         "top", "inner", "inleft", "inright", "empty", "full")
LABEL_WORDS = ("put", "set", "wrapleft", "wrapright", "is", "isnot")
TESTS = ("top", "inner", "inleft", "inright", "empty", "full", "is", "isnot")
SIMPLE = WORDS + tuple((word, label) for word in LABEL_WORDS for label in ("a", "b"))
NESTED = (("else", ("left",), ("up",)), ("else", ("up", "clear"), ()), ("not", ("top",)), ("not", ()),
          ("else", (("put", "a"), "left"), (("not", (("is", "a"),)), "cut")), ("not", (("not", ("swap",)),)),
          ("else", (("else", ("inleft",), ("liftright", "full")),), (("wrapleft", "b"),)))
SMALL = samples.small_states(3, ("a", "b"))
ONE_LABEL = samples.small_states(3, ("a",))
LEAF_A, LEAF_B, LEAF_C = ("a", (), ()), ("b", (), ()), ("c", (), ())


class Places:
    """A state told by the places of its labels: another way to do what point 4 says."""

    def __init__(self, state):
        self.tree = dict(labels_at(whole(state), ""))
        self.at = "".join(side[0] for side in path_of(state))
        self.hand = dict(labels_at(state[2], ""))

    def below(self, at):
        return {place[len(at):]: label for place, label in self.tree.items() if place.startswith(at)}

    def replace(self, at, below):
        kept = {place: label for place, label in self.tree.items() if not place.startswith(at)}
        kept.update({at + place: label for place, label in below.items()})
        self.tree = kept

    def state(self):
        sides = tuple({"l": "left", "r": "right"}[c] for c in self.at)
        return state_at(tree_from(self.tree, ""), sides, tree_from(self.hand, ""))

    def full(self):
        return self.at in self.tree

    def begins(self, side):
        return self.at.endswith(side)


def labels_at(tree, at):
    if tree == ():
        return []
    return [(at, tree[0])] + labels_at(tree[1], at + "l") + labels_at(tree[2], at + "r")


def tree_from(labels, at):
    if at not in labels:
        return ()
    return (labels[at], tree_from(labels, at + "l"), tree_from(labels, at + "r"))


def turned(at):
    return {"l": "r", "r": "l"}[at[0]] + at[1:] if at else at


def under(side, below):
    return {side + place: label for place, label in below.items()}


def work_of_moves(word, p):
    if word in ("left", "right"):
        works = p.full()
        p.at += word[0]
        return works
    works = p.at != ""
    p.at = p.at[:-1]
    return works


def work_of_hand(word, p):
    here, hand = p.below(p.at), p.hand
    if word in ("cut", "copy", "trade"):
        p.hand = here
    p.replace(p.at, {"clear": {}, "cut": {}, "copy": here, "paste": hand, "trade": hand}[word])
    return True


def work_of_shape(word, p):
    works, here = p.full(), p.below(p.at)
    if word == "swap":
        p.replace(p.at, {turned(place): label for place, label in here.items()})
    else:
        side = word[4]
        p.replace(p.at, {place[1:]: label for place, label in here.items() if place[:1] == side})
    return works


def work_of_rise(p):
    if not p.full() or p.at == "":
        return False
    above, side = p.at[:-1], p.at[-1]
    other = {"l": "r", "r": "l"}[side]
    x = p.tree[p.at]
    y = p.tree[above]
    near, far, beside = p.below(p.at + side), p.below(p.at + other), p.below(above + other)
    p.replace(above, {"": x, **under(side, near), other: y, **under(other + side, far), **under(other + other, beside)})
    p.at = above
    return True


def work_of_tests(word, p):
    return {"top": p.at == "", "inner": p.at != "", "inleft": p.begins("l"), "inright": p.begins("r"),
            "empty": not p.full(), "full": p.full()}[word]


def work_of_labels(word, label, p):
    full, here = p.full(), p.below(p.at)
    if word in ("is", "isnot"):
        return full and (p.tree[p.at] == label) == (word == "is")
    if word == "put":
        p.replace(p.at, {"": label})
        return not full
    if word == "set":
        p.replace(p.at, {**here, "": label})
        return full
    p.replace(p.at, {"": label, **under(word[4], here)})
    return True


def by_places(command, state):
    """What a command other than else and not makes of a state."""
    p = Places(state)
    if isinstance(command, tuple):
        works = work_of_labels(command[0], command[1], p)
    elif command in ("left", "right", "up"):
        works = work_of_moves(command, p)
    elif command in ("clear", "cut", "copy", "paste", "trade"):
        works = work_of_hand(command, p)
    elif command in ("swap", "liftleft", "liftright"):
        works = work_of_shape(command, p)
    elif command == "rise":
        works = work_of_rise(p)
    else:
        works = work_of_tests(command, p)
    return p.state() if works else None


class CheckScriptTest(unittest.TestCase):
    def test_scripts(self):
        for thing in [(), WORDS, SIMPLE, NESTED, SIMPLE + NESTED, ("left",) * 8, (("else", (), ()),),
                      (("not", (("else", (("not", ()),), ("up", ("set", "left"))),)), "rise")]:
            self.assertIsNone(check_script(thing), thing)

    def test_each_command_alone(self):
        for command in SIMPLE + NESTED:
            self.assertIsNone(check_script((command,)), command)

    def test_what_is_no_tuple(self):
        for thing in [None, True, False, 0, 5, "", "left", [], ["left"], [("put", "a")], {}, {"left": 1}]:
            self.assertEqual(check_script(thing), (), thing)

    def test_anything(self):
        for thing in samples.anything():
            if not isinstance(thing, tuple):
                self.assertEqual(check_script(thing), (), thing)
                self.assertEqual(check_script(("up", thing)), (1,), thing)
                self.assertEqual(check_script((("not", thing),)), (0, 1), thing)
                self.assertEqual(check_script(("up", ("else", (), thing))), (1, 2), thing)
                self.assertEqual(check_script(((thing, "a"),)), (0,), thing)
                self.assertEqual(check_script(((thing, ()),)), (0,), thing)
                self.assertEqual(check_script(((thing, (), ()),)), (0,), thing)
                for word in WORDS + LABEL_WORDS:
                    self.assertEqual(check_script((word if word in WORDS else "top", (word, thing))), (1,))

    def test_things_within_one_another(self):
        for depth in (1, 2, 5, 24, 50):
            tuples, lists, dicts, nots, _, elses, _ = samples.nested(depth)
            self.assertEqual(check_script(tuples), (0,))
            self.assertEqual([check_script(lists), check_script(dicts)], [(), ()])
            self.assertEqual(check_script((nots,)), (0, 1) * depth + (0,))
            self.assertEqual(check_script((elses,)), (0, 2) * depth + (0,))

    def test_words_that_are_none(self):
        for word in ("Left", "LEFT", "lef", "leftt", "left ", " left", "", "down", "else", "not", "put", "set", "is",
                     "isnot", "wrapleft", "wrapright", "lift", "wrap", "liftup", "in", "inup", "a", "left\n"):
            self.assertEqual(check_script((word,)), (0,), word)
            self.assertEqual(check_script(("up", "up", word, 5)), (2,), word)

    def test_words_in_tuples(self):
        for word in WORDS + ("else", "not") + LABEL_WORDS:
            self.assertEqual(check_script(((word,),)), (0,), word)
        for word in WORDS + ("else", "Put", ""):
            self.assertEqual(check_script(((word, "a"),)), (0,), word)
        for word in LABEL_WORDS:
            self.assertEqual(check_script(((word, "a", "b"),)), (0,), word)
            self.assertEqual(check_script(((word, "a", ()),)), (0,), word)
            self.assertEqual(check_script(((word, ()),)), (0,), word)
            self.assertEqual(check_script(([word, "a"],)), (0,), word)
            self.assertEqual(check_script((((word, "a"),),)), (0,), word)

    def test_labels(self):
        for word in LABEL_WORDS:
            for label in ("a", "z", "abcdefgh", "left", "else"):
                self.assertIsNone(check_script(((word, label),)))
            for label in ("", "A", "aB", "a b", "a1", "1", "-", "a\n", " ", "{", "`", None, 1, True, ("a",), ["a"], {}):
                self.assertEqual(check_script(((word, label),)), (0,), label)

    def test_else_and_not_of_a_wrong_length(self):
        for thing in [("else",), ("else", ()), ("else", (), (), ()), ("not",), ("not", (), ()), ["not", ()],
                      ["else", (), ()], ("Else", (), ()), ("Not", ()), (("else", (), ()),), (["not"], ()), ()]:
            self.assertEqual(check_script(("up", thing)), (1,), thing)

    def test_scripts_within(self):
        self.assertEqual(check_script((("else", "left", "up"),)), (0, 1))
        self.assertEqual(check_script((("else", ["left"], ()),)), (0, 1))
        self.assertEqual(check_script((("else", (), ["left"]),)), (0, 2))
        self.assertEqual(check_script((("else", ("left", "no"), ("no",)),)), (0, 1, 1))
        self.assertEqual(check_script((("else", ("left", "up"), ("up", "up", "no")),)), (0, 2, 2))
        self.assertEqual(check_script((("not", "left"),)), (0, 1))
        self.assertEqual(check_script((("not", "a"),)), (0, 1))
        self.assertEqual(check_script((("not", ("left", ("put", "A"))),)), (0, 1, 1))
        self.assertEqual(check_script(("up", ("not", (("else", (), (("not", 5),)),)))), (1, 1, 0, 2, 0, 1))

    def test_first_of_several_problems(self):
        self.assertEqual(check_script(("no", "no")), (0,))
        self.assertEqual(check_script((("not", ("no",)), "no")), (0, 1, 0))
        self.assertEqual(check_script(("up", ("not", ()), ("else", 5, 5), "no")), (2, 1))
        self.assertEqual(check_script((("else", (("not", ()), 1), 1), 1)), (0, 1, 1))

    def test_examples_of_the_interface(self):
        self.assertEqual(check_script(("left", ("else", ("up",), ("put", "a")))), (1, 2, 0))
        self.assertEqual(run(("left", ("set", "x"), "up"), (("a", ("b", (), ()), ()), (), ())),
                         (("a", ("x", (), ()), ()), (), ()))
        self.assertEqual(run(("rise",), (("b", (), ()), ("left", "a", ("c", (), ()), ()), ())),
                         (("b", (), ("a", (), ("c", (), ()))), (), ()))
        with self.assertRaises(InvalidScript) as caught:
            run(("up", ("put", "A")), ((), (), ()))
        self.assertEqual(caught.exception.problem, (1,))
        self.assertEqual(mirrored((("put", "left"), "left", ("wrapleft", "a"))),
                         (("put", "left"), "right", ("wrapright", "a")))

    def test_by_name(self):
        self.assertIsNone(check_script(thing=NESTED))
        self.assertEqual(check_script(thing=["up"]), ())


class RunTest(unittest.TestCase):
    def does(self, steps, state, expected):
        self.assertEqual(run(steps, state), expected, (steps, state))

    def test_moves(self):
        tree = ("a", LEAF_B, LEAF_C)
        self.does(("left",), (tree, (), LEAF_A), (LEAF_B, ("left", "a", LEAF_C, ()), LEAF_A))
        self.does(("right",), (tree, (), LEAF_A), (LEAF_C, ("right", "a", LEAF_B, ()), LEAF_A))
        self.does(("left",), (LEAF_B, ("right", "a", LEAF_C, ()), ()),
                  ((), ("left", "b", (), ("right", "a", LEAF_C, ())), ()))
        self.does(("up",), (LEAF_B, ("left", "a", LEAF_C, ()), LEAF_A), (tree, (), LEAF_A))
        self.does(("up",), (LEAF_C, ("right", "a", LEAF_B, ()), ()), (tree, (), ()))
        self.does(("up",), ((), ("right", "a", LEAF_B, ("left", "d", (), ())), ()),
                  (("a", LEAF_B, ()), ("left", "d", (), ()), ()))
        for word in ("left", "right", "up"):
            self.does((word,), ((), (), tree), None)

    def test_hand(self):
        way = ("left", "d", (), ())
        self.does(("clear",), (LEAF_A, way, LEAF_B), ((), way, LEAF_B))
        self.does(("cut",), (LEAF_A, way, LEAF_B), ((), way, LEAF_A))
        self.does(("copy",), (LEAF_A, way, LEAF_B), (LEAF_A, way, LEAF_A))
        self.does(("paste",), (LEAF_A, way, LEAF_B), (LEAF_B, way, LEAF_B))
        self.does(("trade",), (LEAF_A, way, LEAF_B), (LEAF_B, way, LEAF_A))
        for word in ("clear", "cut", "copy", "paste", "trade"):
            self.does((word,), ((), (), ()), ((), (), ()))

    def test_shapes(self):
        tree, way = ("a", LEAF_B, LEAF_C), ("right", "d", LEAF_A, ())
        self.does(("swap",), (tree, way, LEAF_B), (("a", LEAF_C, LEAF_B), way, LEAF_B))
        self.does(("liftleft",), (tree, way, LEAF_B), (LEAF_B, way, LEAF_B))
        self.does(("liftright",), (tree, way, LEAF_B), (LEAF_C, way, LEAF_B))
        for word in ("swap", "liftleft", "liftright"):
            self.does((word,), ((), way, tree), None)

    def test_rise(self):
        tree, rest = ("x", LEAF_A, LEAF_B), ("right", "d", (), ())
        self.does(("rise",), (tree, ("left", "y", LEAF_C, rest), LEAF_A),
                  (("x", LEAF_A, ("y", LEAF_B, LEAF_C)), rest, LEAF_A))
        self.does(("rise",), (tree, ("right", "y", LEAF_C, rest), LEAF_A),
                  (("x", ("y", LEAF_C, LEAF_A), LEAF_B), rest, LEAF_A))
        self.does(("rise",), (tree, (), LEAF_A), None)
        self.does(("rise",), ((), ("left", "y", LEAF_C, rest), LEAF_A), None)
        self.does(("rise",), ((), (), ()), None)

    def test_labels(self):
        tree, way = ("a", LEAF_B, LEAF_C), ("left", "d", LEAF_A, ())
        self.does((("put", "x"),), ((), way, tree), (("x", (), ()), way, tree))
        self.does((("put", "x"),), (LEAF_A, way, ()), None)
        self.does((("set", "x"),), (tree, way, LEAF_A), (("x", LEAF_B, LEAF_C), way, LEAF_A))
        self.does((("set", "x"),), ((), way, LEAF_A), None)
        self.does((("wrapleft", "x"),), (tree, way, LEAF_A), (("x", tree, ()), way, LEAF_A))
        self.does((("wrapright", "x"),), (tree, way, LEAF_A), (("x", (), tree), way, LEAF_A))
        self.does((("wrapleft", "x"),), ((), (), ()), (("x", (), ()), (), ()))
        self.does((("wrapright", "x"),), ((), (), ()), (("x", (), ()), (), ()))

    def test_tests(self):
        top, left = (LEAF_A, (), LEAF_B), (LEAF_A, ("left", "d", (), ()), LEAF_B)
        right, empty = (LEAF_A, ("right", "d", (), ("left", "e", (), ())), LEAF_B), ((), (), LEAF_A)
        works = {"top": (top, empty), "inner": (left, right), "inleft": (left,), "inright": (right,),
                 "empty": (empty,), "full": (top, left, right), ("is", "a"): (top, left, right), ("is", "b"): (),
                 ("isnot", "b"): (top, left, right), ("isnot", "a"): ()}
        for command, good in works.items():
            for state in (top, left, right, empty):
                self.does((command,), state, state if state in good else None)

    def test_each_command_by_places(self):
        for command in SIMPLE:
            for state in SMALL:
                self.does((command,), state, by_places(command, state))

    def test_two_commands_after_one_another(self):
        for first in SIMPLE:
            for state in ONE_LABEL:
                between = by_places(first, state)
                for second in SIMPLE:
                    expected = None if between is None else by_places(second, between)
                    self.does((first, second), state, expected)

    def test_empty_script(self):
        for state in SMALL:
            self.does((), state, state)

    def test_tests_change_nothing(self):
        for command in SIMPLE:
            word = command if isinstance(command, str) else command[0]
            if word in TESTS:
                self.assertEqual([s for s in SMALL if run((command,), s) not in (None, s)], [])

    def test_script_fails_if_a_command_fails(self):
        self.does(("clear", "left", "up"), (LEAF_A, (), ()), None)
        self.does(("left", "left"), (LEAF_A, (), ()), None)
        self.does(("up", ("put", "a")), ((), (), ()), None)

    def test_else(self):
        for first in SIMPLE:
            for second in ("up", "clear", ("put", "b"), "rise"):
                for state in ONE_LABEL:
                    made = by_places(first, state)
                    expected = by_places(second, state) if made is None else made
                    self.does((("else", (first,), (second,)),), state, expected)

    def test_else_begins_again_at_the_state_as_it_was(self):
        state = (("a", LEAF_B, ()), (), LEAF_C)
        self.does((("else", ("cut", "left"), ("left",)),), state, (LEAF_B, ("left", "a", (), ()), LEAF_C))
        self.does((("else", ("clear", "top", "full"), ()), "copy"), state, (state[0], (), state[0]))
        self.does((("else", ("left", "left", "left"), ("up",)),), state, None)

    def test_commands_behind_else_are_not_tried_again(self):
        # left works, so what follows fails for good, although the second script would have worked.
        self.does((("else", ("left",), ()), "top"), (LEAF_A, (), ()), None)
        self.does((("else", (), ("left",)), "inner"), (LEAF_A, (), ()), None)

    def test_not(self):
        for command in SIMPLE:
            for state in ONE_LABEL:
                fails = by_places(command, state) is None
                self.does((("not", (command,)),), state, state if fails else None)
                self.does((("not", (("not", (command,)),)),), state, None if fails else state)
        self.does((("not", ()),), ((), (), ()), None)

    def test_not_keeps_the_state_as_it_was(self):
        state = (LEAF_A, ("left", "b", (), ()), ())
        self.does((("not", ("cut", "full")), "up"), state, (("b", LEAF_A, ()), (), ()))
        self.does(("up", ("not", ("left", "swap", "rise", "up"))), state, (("b", LEAF_A, ()), (), ()))

    def test_within_one_another(self):
        inner = ("else", (("is", "a"), ("set", "b")), (("else", (("is", "b"), ("set", "c")), (("put", "a"),)),))
        for label, expected in (("a", "b"), ("b", "c")):
            self.does((inner,), ((label, (), ()), (), ()), ((expected, (), ()), (), ()))
        self.does((inner,), (LEAF_C, (), ()), None)
        self.does((inner,), ((), (), ()), (LEAF_A, (), ()))
        self.does((("not", (inner,)),), (LEAF_C, (), ()), (LEAF_C, (), ()))
        self.does((("not", (("not", (("not", ("top",)),)),)),), ((), (), ()), None)
        self.does((("else", (("not", (("else", ("up",), ("left",)),)), "copy"), ("cut",)),), (LEAF_A, (), ()),
                  ((), (), LEAF_A))

    def test_wrong_scripts_come_first(self):
        for thing in samples.anything():
            problem = check_script(thing)
            if problem is None:
                continue
            for call in ((lambda: run(thing, 5)), (lambda: run(thing, ((), (), ()))),
                         (lambda: run(steps=thing, state=thing)), (lambda: mirrored(thing)),
                         (lambda: mirrored(steps=thing))):
                with self.assertRaises(InvalidScript) as caught:
                    call()
                self.assertEqual(caught.exception.problem, problem)

    def test_wrong_scripts_with_long_problems(self):
        steps = ("up", ("not", (("else", (), (("put", "A"),)),)))
        for call in ((lambda: run(steps, ((), (), ()))), (lambda: mirrored(steps))):
            with self.assertRaises(InvalidScript) as caught:
                call()
            self.assertEqual(caught.exception.problem, (1, 1, 0, 2, 0))

    def test_scripts_that_would_fail_before_the_problem(self):
        with self.assertRaises(InvalidScript) as caught:
            run(("up", "up", "no"), ((), (), ()))
        self.assertEqual(caught.exception.problem, (2,))
        with self.assertRaises(InvalidScript) as caught:
            run((("else", (), ("no",)),), ((), (), ()))
        self.assertEqual(caught.exception.problem, (0, 2, 0))

    def test_wrong_states(self):
        wrong = samples.anything() + [(LEAF_A, (), 5), (LEAF_A, "up", ()), [(), (), ()], LEAF_A]
        for state in wrong:
            if check_state(state) is None:
                continue
            for steps in ((), ("up",), ("clear",), NESTED):
                with self.assertRaises(InvalidState) as caught:
                    run(steps, state)
                self.assertEqual(caught.exception.thing, state)

    def test_by_name(self):
        self.assertEqual(run(steps=("cut",), state=(LEAF_A, (), ())), ((), (), LEAF_A))
        self.assertEqual(run(state=(LEAF_A, (), ()), steps=("copy",)), (LEAF_A, (), LEAF_A))

    def test_same_call_same_answer(self):
        for command in SIMPLE + NESTED:
            first = [run((command,), state) for state in ONE_LABEL]
            self.assertEqual([run((copy.deepcopy(command),), copy.deepcopy(state)) for state in ONE_LABEL], first)

    def test_all_that_is_made_are_states(self):
        for command in SIMPLE + NESTED:
            for state in ONE_LABEL:
                made = run((command,), state)
                self.assertTrue(made is None or check_state(made) is None)


class MirroredTest(unittest.TestCase):
    def test_words(self):
        pairs = (("left", "right"), ("liftleft", "liftright"), ("inleft", "inright"))
        for one, other in pairs:
            self.assertEqual(mirrored((one, other)), (other, one))
        for word in WORDS:
            if word not in [word for pair in pairs for word in pair]:
                self.assertEqual(mirrored((word,)), (word,))

    def test_words_with_labels(self):
        for label in ("a", "left", "right", "wrapleft", "inleft", "liftright"):
            self.assertEqual(mirrored((("wrapleft", label), ("wrapright", label))),
                             (("wrapright", label), ("wrapleft", label)))
            for word in ("put", "set", "is", "isnot"):
                self.assertEqual(mirrored(((word, label),)), ((word, label),))

    def test_scripts_within(self):
        self.assertEqual(mirrored(()), ())
        self.assertEqual(mirrored((("else", ("left", "up"), ()), "inright")),
                         (("else", ("right", "up"), ()), "inleft"))
        self.assertEqual(mirrored((("else", (), ("liftright",)),)), (("else", (), ("liftleft",)),))
        self.assertEqual(mirrored((("not", (("not", ("left", ("wrapright", "right"))),)),)),
                         (("not", (("not", ("right", ("wrapleft", "right"))),)),))
        self.assertEqual(mirrored((("not", ()),)), (("not", ()),))

    def test_the_mirror_of_the_mirror(self):
        for command in SIMPLE + NESTED:
            steps = (command, ("not", (command,)), ("else", ("up", command), (command,)))
            self.assertIsNone(check_script(mirrored(steps)))
            self.assertEqual(mirrored(mirrored(steps)), steps)

    def test_it_makes_the_mirror(self):
        for command in SIMPLE + NESTED:
            for steps in ((command,), ("left", command), (command, "up", ("else", ("right", command), ("rise",)))):
                for state in ONE_LABEL:
                    made = run(steps, state)
                    expected = None if made is None else mirror_of(made)
                    self.assertEqual(run(mirrored(steps), mirror_of(state)), expected, (steps, state))


class LargeTest(unittest.TestCase):
    def test_scripts_of_eight_commands_and_states_of_sixty_nodes(self):
        steps = ("left", ("else", ("up", "rise"), ("copy", "left")), "paste", ("wrapright", "z"))
        for sides in (("left",), ("right",), ("left", "right")):
            tree = samples.chain(60, sides)
            for state in ((tree, (), ()), ((), samples.long_way(60, sides), ()), ((), (), tree)):
                expected = state
                for command in ("left", "copy", "left", "paste", ("wrapright", "z")):
                    expected = None if expected is None else by_places(command, expected)
                self.assertEqual(run(steps, state), expected)

    def test_scripts_far_within_one_another(self):
        steps, again = ("up",), ("clear",)
        for _ in range(60):
            steps, again = (("not", steps),), (("else", ("up",), again),)
        self.assertIsNone(check_script(steps))
        self.assertEqual(run(steps, ((), (), ())), None)
        self.assertEqual(run((("not", steps),), ((), (), ())), ((), (), ()))
        self.assertEqual(run(again, (LEAF_A, (), ())), ((), (), ()))
        self.assertEqual(mirrored(steps), steps)

    def test_scripts_of_many_commands(self):
        tree = samples.chain(3000, ("left", "right"))
        there = ("right", "left") * 1500
        made = run(there, (tree, (), ()))
        self.assertEqual([made[0], len(path_of(made))], [(), 3000])
        back = run(there + (("put", "x"),) + ("up",) * 3000, (tree, (), ()))
        self.assertEqual(nodes_of(back), 3001)
        self.assertEqual(len(mirrored(there * 6)), 18000)

    def test_states_that_were_made_are_taken_whatever_their_size(self):
        state = (LEAF_A, (), ())
        steps = ("copy", ("wrapleft", "b"), "right", "paste", "up", "swap")
        for _ in range(12):
            state = run(steps, state)
        self.assertEqual(nodes_of(state), (2 ** 12 * 2 - 1) + (2 ** 11 * 2 - 1))
        self.assertIs(is_tree(whole(state)), True)
        state = ((), (), ())
        for _ in range(400):
            state = run((("wrapleft", "a"), "copy") + (("wrapright", "b"),) * 4, state)
        self.assertEqual(nodes_of(state), 2000 + 1996)
        self.assertEqual(nodes_of(run(("trade", "rise"), run(("trade", "left"), state))), 3996)


if __name__ == "__main__":
    unittest.main()
