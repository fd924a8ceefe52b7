"""cursorscripts.trees: trees, states and what is told of them (points 1, 2, 3 and 10)."""

import copy
import math
import unittest

import samples
from cursorscripts.errors import InvalidPath, InvalidState, InvalidTree
from cursorscripts.trees import check_state, is_tree, mirror_of, nodes_of, path_of, state_at, whole

ABC = ("a", ("b", (), ()), ("c", (), ()))
AT_B = (("b", (), ()), ("left", "a", ("c", (), ()), ()), ())
SMALL = samples.small_states(3, ("a", "b"))


def tree_by_words(thing):
    """Point 3, word by word."""
    if not isinstance(thing, tuple):
        return False
    if len(thing) == 0:
        return True
    return len(thing) == 3 and label_by_words(thing[0]) and tree_by_words(thing[1]) and tree_by_words(thing[2])


def label_by_words(thing):
    return isinstance(thing, str) and len(thing) > 0 and all(c in "abcdefghijklmnopqrstuvwxyz" for c in thing)


def way_by_words(thing):
    if not isinstance(thing, tuple):
        return False
    if len(thing) == 0:
        return True
    return (len(thing) == 4 and isinstance(thing[0], str) and thing[0] in ("left", "right")
            and label_by_words(thing[1]) and tree_by_words(thing[2]) and way_by_words(thing[3]))


def problem_by_words(thing):
    if not isinstance(thing, tuple) or len(thing) != 3:
        return ("form",)
    good = (tree_by_words(thing[0]), way_by_words(thing[1]), tree_by_words(thing[2]))
    return None if all(good) else ((("focus",), ("way",), ("hand",))[good.index(False)])


def spoiled(thing, wrong):
    """Thing with each of its parts in turn replaced by what is wrong."""
    yield wrong
    if isinstance(thing, tuple):
        for k, part in enumerate(thing):
            for other in spoiled(part, wrong):
                yield thing[:k] + (other,) + thing[k + 1:]
        yield list(thing)
        yield thing + (wrong,)
        yield thing[:-1]


class IsTreeTest(unittest.TestCase):
    def test_trees(self):
        for tree in [(), ("a", (), ()), ("z", (), ()), ("abcdefgh", (), ()), ABC, ("left", (), ()), ("not", (), ()),
                     ("q", ("q", ("q", (), ()), ()), ()), ("q", (), ("q", (), ("q", (), ())))]:
            self.assertIs(is_tree(tree), True, tree)

    def test_what_is_no_tree(self):
        for thing in samples.anything():
            self.assertIs(is_tree(thing), False if thing != () else True, thing)

    def test_each_letter(self):
        for code in range(128):
            letter = chr(code)
            self.assertIs(is_tree((letter, (), ())), "a" <= letter <= "z", code)
            self.assertIs(is_tree(("a" + letter + "b", (), ())), "a" <= letter <= "z", code)

    def test_letters_beyond_z_are_none(self):
        for letter in ("\u00e9", "\u00df", "\u0430", "\u00b5", "\u00aa"):
            self.assertIs(is_tree((letter, (), ())), False)
            self.assertIs(is_tree(("a" + letter, (), ())), False)

    def test_states_and_ways_are_no_trees(self):
        for thing in (AT_B, AT_B[1], ((), (), ()), ("left", "a", (), ())):
            self.assertIs(is_tree(thing), False)

    def test_all_small_trees(self):
        for nodes, many in enumerate((1, 1, 2, 5, 14, 42)):
            found = samples.trees(nodes, ("a",))
            self.assertEqual(len(found), many)
            self.assertEqual([is_tree(tree) for tree in found], [True] * many)

    def test_spoiled_trees(self):
        for wrong in samples.WRONG:
            for thing in spoiled(("a", ("b", (), ("d", (), ())), ("c", (), ())), wrong):
                self.assertIs(is_tree(thing), tree_by_words(thing), thing)

    def test_wrong_far_within(self):
        for sides in (("left",), ("right",), ("left", "right")):
            for wrong in (None, [], "a", ("a", ()), {}):
                tree = wrong
                for k in range(59):
                    tree = ("a", tree, ()) if sides[k % len(sides)] == "left" else ("a", (), tree)
                self.assertIs(is_tree(tree), False)

    def test_by_name(self):
        self.assertIs(is_tree(thing=ABC), True)
        self.assertIs(is_tree(thing=5), False)


class CheckStateTest(unittest.TestCase):
    def test_states(self):
        for state in SMALL + [((), (), ()), AT_B, ((), ("right", "abcdefgh", ABC, ("left", "x", (), ())), ABC)]:
            self.assertIsNone(check_state(state))

    def test_small_states_are_as_many_as_point_18_tells(self):
        for labels in (("a",), ("a", "b")):
            for nodes in range(4):
                many = math.comb(2 * nodes + 2, nodes) * len(labels) ** nodes
                self.assertEqual(len(samples.states(nodes, labels)), many)

    def test_form(self):
        for thing in [None, True, 5, "abc", [], [(), (), ()], {}, (), ((),), ((), ()), ((), (), (), ()),
                      ("a", (), (), ()), {"a": 1, "b": 2, "c": 3}]:
            self.assertEqual(check_state(thing), ("form",), thing)

    def test_first_problem_of_several(self):
        self.assertEqual(check_state((1, 2, 3)), ("focus",))
        self.assertEqual(check_state(((), 2, 3)), ("way",))
        self.assertEqual(check_state(((), (), 3)), ("hand",))
        self.assertEqual(check_state((1, (), 3)), ("focus",))
        self.assertEqual(check_state((1, 2, ())), ("focus",))
        self.assertEqual(check_state("abc"), ("form",))
        self.assertEqual(check_state(("a", (), ())), ("focus",))

    def test_wrong_ways(self):
        for way in [None, 0, "left", ["left", "a", (), ()], ("left",), ("left", "a"), ("left", "a", ()),
                    ("left", "a", (), (), ()), ("up", "a", (), ()), ("Left", "a", (), ()), ("", "a", (), ()),
                    (0, "a", (), ()), (True, "a", (), ()), (["left"], "a", (), ()), ({}, "a", (), ()),
                    (("left", "right"), "a", (), ()), ("left", "", (), ()), ("left", "A", (), ()),
                    ("left", 1, (), ()), ("left", ("a",), (), ()), ("left", (), (), ()), ("left", "a", [], ()),
                    ("left", "a", "b", ()), ("left", "a", ("b",), ()), ("left", "a", (), []),
                    ("left", "a", (), None), ("left", "a", (), {}), ("left", "a", (), ("a", (), ())),
                    ("left", "a", (), ("right", "b", (), ("right", "c", (), 0))), ("a", (), ()), ABC]:
            self.assertEqual(check_state(((), way, ())), ("way",), way)
            self.assertEqual(check_state(((), way, 5)), ("way",), way)

    def test_anything(self):
        for thing in samples.anything():
            self.assertEqual(check_state(thing), problem_by_words(thing), thing)
            if not tree_by_words(thing):
                self.assertEqual(check_state((thing, thing, thing)), ("focus",))
                self.assertEqual(check_state(((), (), thing)), ("hand",))
            if not way_by_words(thing):
                self.assertEqual(check_state(((), thing, thing)), ("way",))

    def test_spoiled_states(self):
        state = (("a", (), ("b", (), ())), ("left", "a", ("c", (), ()), ("right", "d", (), ())), ("e", (), ()))
        for wrong in samples.WRONG:
            for thing in spoiled(state, wrong):
                self.assertEqual(check_state(thing), problem_by_words(thing), thing)

    def test_by_name(self):
        self.assertIsNone(check_state(thing=AT_B))
        self.assertEqual(check_state(thing=[]), ("form",))


class OfAStateTest(unittest.TestCase):
    def test_nodes(self):
        self.assertEqual(nodes_of(((), (), ())), 0)
        self.assertEqual(nodes_of((("a", (), ()), (), ())), 1)
        self.assertEqual(nodes_of(((), (), ("a", (), ()))), 1)
        self.assertEqual(nodes_of(((), ("left", "a", (), ()), ())), 1)
        self.assertEqual(nodes_of(((), ("left", "a", ("b", (), ()), ()), ())), 2)
        self.assertEqual(nodes_of(AT_B), 3)
        self.assertEqual(nodes_of((ABC, ("left", "a", ABC, ("right", "b", ABC, ())), ABC)), 14)

    def test_nodes_of_all_small_states(self):
        for nodes in range(4):
            self.assertEqual([nodes_of(s) for s in samples.states(nodes, ("a",)) if nodes_of(s) != nodes], [])

    def test_whole(self):
        self.assertEqual(whole(((), (), ABC)), ())
        self.assertEqual(whole((ABC, (), ())), ABC)
        self.assertEqual(whole(AT_B), ABC)
        self.assertEqual(whole(((), ("left", "a", ("b", (), ()), ()), ABC)), ("a", (), ("b", (), ())))
        self.assertEqual(whole(((), ("right", "a", ("b", (), ()), ()), ABC)), ("a", ("b", (), ()), ()))

    def test_path(self):
        self.assertEqual(path_of(((), (), ABC)), ())
        self.assertEqual(path_of(AT_B), ("left",))
        way = ("left", "a", (), ("left", "b", ABC, ("right", "c", (), ())))
        self.assertEqual(path_of(((), way, ())), ("right", "left", "left"))
        self.assertIs(type(path_of(AT_B)), tuple)

    def test_examples_of_the_interface(self):
        self.assertEqual(state_at(ABC, ("left",)), AT_B)
        state = (("b", (), ()), ("right", "a", (), ("left", "d", (), ())), ())
        self.assertEqual([path_of(state), whole(state)],
                         [("left", "right"), ("d", ("a", (), ("b", (), ())), ())])
        with self.assertRaises(InvalidPath) as caught:
            state_at(("a", (), ()), ("left", "left"))
        self.assertEqual(caught.exception.place, 1)

    def test_mirror(self):
        self.assertEqual(mirror_of(((), (), ())), ((), (), ()))
        self.assertEqual(mirror_of((ABC, (), ())), (("a", ("c", (), ()), ("b", (), ())), (), ()))
        self.assertEqual(mirror_of(((), (), ABC)), ((), (), ("a", ("c", (), ()), ("b", (), ()))))
        state = (("a", ("b", ("c", (), ()), ()), ()), ("left", "d", ABC, ("right", "e", (), ())), ("f", (), ABC))
        turned = ("a", ("c", (), ()), ("b", (), ()))
        self.assertEqual(mirror_of(state), (("a", (), ("b", (), ("c", (), ()))),
                                            ("right", "d", turned, ("left", "e", (), ())), ("f", turned, ())))

    def test_mirror_of_all_small_states(self):
        for state in SMALL:
            turned = mirror_of(state)
            self.assertIsNone(check_state(turned))
            self.assertEqual(mirror_of(turned), state)
            self.assertEqual(nodes_of(turned), nodes_of(state))
            self.assertEqual(path_of(turned), tuple({"left": "right", "right": "left"}[s] for s in path_of(state)))
            self.assertEqual((whole(turned), (), turned[2]), mirror_of((whole(state), (), state[2])))

    def test_there_and_back(self):
        for state in SMALL:
            self.assertEqual(state_at(whole(state), path_of(state), state[2]), state)

    def test_wrong_states(self):
        wrong = samples.anything() + [(ABC, (), 5), (ABC, ("left",), ()), ([], (), ()), ABC, [ABC, (), ()]]
        for state in wrong:
            if state == ((), (), ()):
                continue
            for call in (nodes_of, whole, path_of, mirror_of):
                for passed in ((lambda: call(state)), (lambda: call(state=state))):
                    with self.assertRaises(InvalidState) as caught:
                        passed()
                    self.assertEqual(caught.exception.thing, state)

    def test_by_name(self):
        self.assertEqual([nodes_of(state=AT_B), whole(state=AT_B), path_of(state=AT_B)], [3, ABC, ("left",)])
        self.assertEqual(mirror_of(state=AT_B), (("b", (), ()), ("right", "a", ("c", (), ()), ()), ()))

    def test_same_call_same_answer(self):
        for call in (nodes_of, whole, path_of, mirror_of, check_state):
            self.assertEqual([call(s) for s in SMALL], [call(copy.deepcopy(s)) for s in SMALL])


class StateAtTest(unittest.TestCase):
    def fails_with(self, error, field, value, *args, **named):
        with self.assertRaises(error) as caught:
            state_at(*args, **named)
        self.assertIs(type(caught.exception), error)
        self.assertEqual(getattr(caught.exception, field), value)

    def test_states(self):
        self.assertEqual(state_at((), ()), ((), (), ()))
        self.assertEqual(state_at(ABC, []), (ABC, (), ()))
        self.assertEqual(state_at(ABC, ["right"], ABC), (("c", (), ()), ("right", "a", ("b", (), ()), ()), ABC))
        self.assertEqual(state_at(ABC, ("left", "right")),
                         ((), ("right", "b", (), ("left", "a", ("c", (), ()), ())), ()))

    def test_all_places(self):
        for tree in samples.trees(3, ("a", "b")):
            for path in [(), ("left",), ("right",), ("left", "left"), ("left", "right"), ("right", "left", "right")]:
                here, bad = tree, None
                for place, side in enumerate(path):
                    if here == ():
                        bad = place
                        break
                    here = here[1 if side == "left" else 2]
                if bad is not None:
                    self.fails_with(InvalidPath, "place", bad, tree, path)
                    continue
                state = state_at(tree, path, ABC)
                self.assertEqual([state[0], whole(state), path_of(state), state[2]], [here, tree, path, ABC])

    def test_wrong_tree_comes_first(self):
        for thing in samples.anything():
            if not tree_by_words(thing):
                self.fails_with(InvalidTree, "thing", thing, thing, 5, 5)
                self.fails_with(InvalidTree, "thing", thing, thing, ("up",), ABC)
                self.fails_with(InvalidTree, "thing", thing, tree=thing, path=(), hand=())

    def test_what_is_no_path(self):
        for thing in [None, True, 0, 5, "", "left", "l", {}, {"left": 1}]:
            self.fails_with(InvalidPath, "place", None, ABC, thing)
            self.fails_with(InvalidPath, "place", None, ABC, thing, 5)

    def test_wrong_items(self):
        for thing in samples.anything():
            self.fails_with(InvalidPath, "place", 0, ABC, (thing,))
            self.fails_with(InvalidPath, "place", 0, ABC, [thing, "left", "left", "left"])
            self.fails_with(InvalidPath, "place", 1, ABC, ["left", thing, thing], 7)
            self.fails_with(InvalidPath, "place", 2, ABC, ("left", "right", thing))
        for word in ("up", "Left", "RIGHT", "leftright", "l", ("left",), ["left"]):
            self.fails_with(InvalidPath, "place", 1, ABC, ("right", word))

    def test_paths_that_lead_on_from_the_empty_tree(self):
        self.fails_with(InvalidPath, "place", 0, (), ("left",))
        self.fails_with(InvalidPath, "place", 0, (), ["right", "up"])
        self.fails_with(InvalidPath, "place", 2, ABC, ("left", "left", "left", "up"))
        self.fails_with(InvalidPath, "place", 2, ABC, ("right", "left", "right"), None)

    def test_wrong_hand_comes_last(self):
        for thing in samples.anything():
            if not tree_by_words(thing):
                self.fails_with(InvalidTree, "thing", thing, ABC, ("left",), thing)
                self.fails_with(InvalidTree, "thing", thing, ABC, [], hand=thing)
                self.fails_with(InvalidPath, "place", 1, ABC, ("left", "up"), thing)
                self.fails_with(InvalidPath, "place", None, ABC, None, thing)

    def test_arguments_stay_as_they_are(self):
        path = ["left", "right"]
        state_at(ABC, path, ABC)
        self.assertEqual(path, ["left", "right"])
        with self.assertRaises(InvalidPath):
            state_at(ABC, path + ["up"], ABC)
        self.assertEqual(path, ["left", "right"])

    def test_by_name(self):
        self.assertEqual(state_at(tree=ABC, path=["left"], hand=ABC), AT_B[:2] + (ABC,))
        self.assertEqual(state_at(hand=(), path=("left",), tree=ABC), AT_B)


class LargeTest(unittest.TestCase):
    def test_states_of_sixty_nodes(self):
        for sides in (("left",), ("right",), ("left", "right"), ("right", "right", "left")):
            tree, way = samples.chain(60, sides), samples.long_way(60, sides)
            path = sides[::-1] * (60 // len(sides))
            for state in ((tree, (), ()), ((), way, ()), ((), (), tree)):
                self.assertIsNone(check_state(state))
                self.assertEqual(nodes_of(state), 60)
                self.assertEqual(mirror_of(mirror_of(state)), state)
            self.assertEqual(whole((tree, (), ())), tree)
            self.assertEqual(path_of(((), way, ()))[::-1], tuple(way_sides(way)))
            self.assertEqual(state_at(tree, path)[0], ())
            self.assertEqual(whole(state_at(tree, path)), tree)
            self.assertEqual(path_of(state_at(tree, path)), path)
            self.assertEqual(nodes_of(state_at(tree, path)), 60)

    def test_long_labels(self):
        tree = ("abcdefgh" * 5, (), ())
        self.assertEqual(whole(state_at(tree, ["left"])), tree)

    def test_far_more_nodes_are_not_refused(self):
        for sides in (("left",), ("right",), ("left", "right")):
            tree, way = samples.chain(5000, sides), samples.long_way(5000, sides, ("x", (), ()))
            state = (tree, way, tree)
            self.assertIsNone(check_state(state))
            self.assertIs(is_tree(tree), True)
            self.assertEqual(nodes_of(state), 20000)
            back = mirror_of(mirror_of(state))
            self.assertEqual(samples.flat(back), samples.flat(state))
            again = state_at(whole(state), path_of(state), tree)
            self.assertEqual(samples.flat(again), samples.flat(state))
        self.assertEqual(nodes_of((samples.full_tree(14), (), samples.full_tree(3))), 2 ** 14 - 1 + 7)

    def test_wrong_far_within_large_states(self):
        tree = samples.chain(3000, ("left", "right"))
        self.assertEqual(check_state((tree, samples.long_way(3000, ("left",), 5), ())), ("way",))
        self.assertEqual(check_state((tree, (), samples.chain(3000, ("left",), "A"))), ("hand",))


def way_sides(way):
    while way != ():
        yield way[0]
        way = way[3]


if __name__ == "__main__":
    unittest.main()
