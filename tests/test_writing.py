"""cursorscripts.writing: scripts and lists as texts (points 1, 2 and 15)."""

import copy
import random
import unittest

import models
import samples
import texts
from checks import TimedCase
from cursorscripts.commands import check_script
from cursorscripts.errors import InvalidList, InvalidScript, Unreadable
from cursorscripts.lists import check_list, list_of
from cursorscripts.making import script_of
from cursorscripts.patterns import meet
from cursorscripts.rewritings import check_rewriting
from cursorscripts.writing import list_text, read_list, read_script, script_text
from models import ANY, TREE, WAY
from test_alike import WRONG_LISTS, WRONG_SCRIPTS
from test_lists import EIGHT, ONE, SAME, SCRIPTS

LEAF = ("a", (), ())
KNOWN = [
    ((), ""), (("up",), "up"), ((("put", "ab"),), "put ab"), (("left", "right"), "left right"), ((("not", ()),), "not []"),
    ((("else", (), ()),), "else [] []"), ((("else", ("left",), (("put", "ab"),)), "up"), "else [left] [put ab] up"),
    ((("is", "left"), ("isnot", "is"), ("set", "else")), "is left isnot is set else"), ((("put", "put"), ("put", "not")), "put put put not"),
    ((("not", (("not", ()), ("not", ("up", "up")))), "top"), "not [not [] not [up up]] top"), (("inner", "inleft"), "inner inleft"),
    ((("else", (("else", (), ("cut",)),), (("not", ("copy",)),)),), "else [else [] [cut]] [not [copy]]"),
    ((("wrapleft", "a"), ("wrapright", "zzzzzzzz")), "wrapleft a wrapright zzzzzzzz"), (tuple(texts.WORDS), " ".join(texts.WORDS)),
]
UNREADABLE = [
    ("up lifted", 7), (" ", 0), ("\n", 0), ("up ", 3), (" up", 0), ("up  up", 3), ("Up", 0), ("ups", 2), ("u", 1), ("put", 3),
    ("put ", 4), ("put A", 4), ("put a b", 6), ("put a1", 5), ("putt a", 3), ("isn", 3), ("is", 2), ("isno a", 4), ("is  a", 3),
    ("not", 3), ("not [", 5), ("not []]", 6), ("not [] ", 7), ("not[]", 3), ("not  []", 4), ("not [ ]", 5), ("not [up", 7),
    ("not [up ]", 8), ("else", 4), ("else []", 7), ("else [] ", 8), ("else [] up", 8), ("else [][]", 7), ("else [] [", 9),
    ("else [] [] []", 11), ("]", 0), ("[]", 0), ("up]", 2), ("up\n", 2), ("up\tup", 2), ("left, up", 4), ("else [up] [up]]", 14),
    ("not [not [not [up]]", 19), ("lift", 4), ("liftl", 5), ("lef t", 3), ("wrap a", 4), ("wrapleft  a", 9), ("else [up ] []", 9),
    ("notes", 3), ("elsewhere", 4), ("inn", 3), ("in left", 2), ("top-", 3), ("e", 1), ("x", 0), ("isleft", 2), ("put a[]", 5),
]
LINES = [
    (((((), TREE, TREE), WAY, TREE), (1, ("left", 0, 2, 3), 4)), "(? * *) | * | * -> 1 | {left 0 2 3} | 4"),
    (SAME, "* | * | * -> 0 | 1 | 2"), (ONE, ". | ^ | . -> . | ^ | ."),
    ((((("a", "b"), TREE, ()), (), TREE), (1, ("left", "x", (), ()), 2)), "(?a,b * .) | ^ | * -> 1 | {left x . ^} | 2"),
    ((((), ("right", "left", LEAF, ("left", ("tree",), (), WAY)), ("way", (), TREE)), ((0, 2, ()), 1, ("right", 2, 2))),
     ". | {right left (a . .) {left ?tree . *}} | (way . *) -> (0 2 .) | 1 | (right 2 2)"),
    ((ANY, ((), (), ())), "* | * | * -> . | ^ | ."),
]
LARGE = (samples.full_tree(3), WAY, ("b", ("c", TREE, TREE), (("a",), TREE, TREE)))


def wide_pattern(many):
    """A pattern with so many unknown labels."""
    tree = ()
    for _ in range(many):
        tree = ((), tree, ())
    return (tree, (), ())


class ScriptTextTest(unittest.TestCase):
    def test_known_texts(self):
        for steps, text in KNOWN:
            self.assertEqual(script_text(steps), text)
            self.assertEqual(read_script(text), steps)

    def test_scripts(self):
        r = random.Random(121)
        for steps in SCRIPTS + EIGHT + [models.random_script(r, r.randint(0, 8)) for _ in range(500)]:
            text = script_text(steps)
            self.assertEqual(text, texts.script_text(steps))
            self.assertEqual(texts.longest_beginning(text), (len(text), True))
            self.assertEqual(read_script(text), steps)

    def test_example(self):
        self.assertEqual(script_text(steps=(("else", ("left",), (("put", "ab"),)), "up")), "else [left] [put ab] up")

    def test_no_scripts(self):
        for wrong in WRONG_SCRIPTS + samples.anything() + [[], ["up"], [SAME], "up"]:
            problem = check_script(wrong)
            if problem is not None:
                with self.assertRaises(InvalidScript) as caught:
                    script_text(wrong)
                self.assertEqual(caught.exception.problem, problem)


class ReadScriptTest(unittest.TestCase):
    def raises(self, text, at):
        with self.assertRaises(Unreadable) as caught:
            read_script(text)
        self.assertEqual(caught.exception.at, at, text)

    def check(self, text):
        at, good = texts.longest_beginning(text)
        if good:
            steps = read_script(text)
            self.assertIsNone(check_script(steps))
            self.assertEqual(texts.script_text(steps), text)
        else:
            self.raises(text, at)
        return good

    def test_unreadable_texts(self):
        for text, at in UNREADABLE:
            self.assertEqual(texts.longest_beginning(text), (at, False))
            self.raises(text, at)

    def test_example(self):
        self.raises("up lifted", 7)
        self.assertEqual(read_script(text="up liftleft"), ("up", "liftleft"))

    def test_texts_cut_off_at_each_place_and_with_each_sign_exchanged(self):
        r = random.Random(122)
        scripts = [steps for steps, _ in KNOWN[:-1]] + [models.random_script(r, 5) for _ in range(12)]
        good = 0
        for steps in scripts:
            text = script_text(steps)
            for at in range(len(text) + 1):
                good += self.check(text[:at])
                for sign in " []\naelnt" + r.choice(texts.SIGNS):
                    self.check(text[:at] + sign + text[at:])
                    good += self.check(text[:at] + sign + text[at + 1:])
                self.check(text[:at] + text[at + 1:])
        self.assertGreater(good, 100)
        for sign in texts.SIGNS:
            for at in range(8):
                self.check("is a [] "[:at] + sign)

    def test_random_texts(self):
        r = random.Random(123)
        parts = ("up", "left", "lift", "is", "isnot", "not", "not ", "else", " ", " ", " [", "[", "]", "] [", "a", "put ", "put", "\n",
                 "else [", "[]", " []")
        for _ in range(4000):
            self.check("".join(r.choice(parts) for _ in range(r.randint(0, 7))))

    def test_what_is_no_string(self):
        for thing in samples.anything() + [b"up", b"", ("up",), ["up"]]:
            if not isinstance(thing, str):
                self.raises(thing, 0)


class ListTextTest(unittest.TestCase):
    def test_known_texts(self):
        for rewriting, text in LINES:
            self.assertEqual(list_text([rewriting]), text)
            self.assertEqual(read_list(text), [rewriting])
        self.assertEqual(list_text([]), "")
        self.assertEqual(read_list(""), [])
        two = [LINES[0][0], (((), WAY, TREE), ((), 0, 1))]
        self.assertEqual(list_text(two), LINES[0][1] + "\n. | * | * -> . | 0 | 1")
        self.assertEqual(read_list(list_text(two)), two)

    def test_lists(self):
        r = random.Random(124)
        lists = [list_of(steps) for steps in SCRIPTS + EIGHT + [models.random_script(r, r.randint(0, 8)) for _ in range(100)]]
        lists += [[item] for item in models.REWRITINGS]
        for _ in range(200):
            pattern = models.random_pattern(r, r.randint(0, 12), ("a", "b", "left"), 3)
            lists.append([(pattern, models.random_template(r, r.randint(0, 12), pattern, ("a", "way")))])
        for found in lists:
            text = list_text(found)
            self.assertEqual(text, "\n".join(texts.rewriting_text(rewriting) for rewriting in found))
            self.assertEqual([texts.rewriting_of(line) for line in text.split("\n")] if found else [], found)
            self.assertEqual(read_list(text), found)

    def test_numbers_of_several_digits(self):
        pattern = wide_pattern(12)
        found = [(pattern, ((11, (10, (0, (), ()), ()), ()), (), ()))]
        text = list_text(found)
        self.assertTrue(text.endswith(" -> (11 (10 (0 . .) .) .) | ^ | ."))
        self.assertEqual(read_list(text), found)
        for number in ("01", "012", "12", "00", "+1", "-1", "1 ", " 1", "1.0", "1_0", "9" * 9, "9" * 10, "9" * 400, "", "?", "*"):
            with self.assertRaises(Unreadable):
                read_list(text.replace("(11 ", f"({number} "))
        for number in (0, 1, 9, 10, 11):
            self.assertEqual(read_list(text.replace("(11 ", f"({number} "))[0][1][0][0], number)

    def test_no_lists(self):
        for wrong in WRONG_LISTS + samples.anything() + [(), (SAME,), "", ("up",)]:
            problem = check_list(wrong)
            if problem is not None:
                with self.assertRaises(InvalidList) as caught:
                    list_text(wrong)
                self.assertEqual(caught.exception.problem, problem)
        with self.assertRaises(InvalidList) as caught:
            list_text([ONE, SAME])
        self.assertEqual(caught.exception.problem, ("both", 0, 1))


class ReadListTest(unittest.TestCase):
    def raises(self, text, at):
        with self.assertRaises(Unreadable) as caught:
            read_list(text)
        self.assertEqual(caught.exception.at, at, text)

    def check(self, text):
        """What read_list tells, seen line by line."""
        found = []
        for number, line in enumerate(text.split("\n") if text else [], 1):
            rewriting = texts.rewriting_of(line)
            if rewriting is None or check_rewriting(rewriting) is not None or any(
                    meet(rewriting[0], pattern) is not None for pattern, _ in found):
                self.raises(text, number)
                return False
            found.append(rewriting)
        self.assertEqual(read_list(text), found)
        return True

    def test_lines_that_are_the_text_of_no_rewriting(self):
        good = ". | ^ | . -> . | ^ | ."
        for line in ("", " ", ".", ". | ^ | .", good + " ", " " + good, good + " | .", good + "->", good + " -> " + good, "a", "up",
                     ". | . | . -> . | ^ | .", "^ | ^ | . -> . | ^ | .", ". | ^ | ^ -> . | ^ | .", ". | ^ | . -> . | . | .",
                     "* | * | * -> * | * | *", "* | * | * -> 1 | 0 | 2", "* | * | * -> 0 | 1 | 3", "* | * | * -> 0 | 0 | 0",
                     "0 | * | * -> 0 | 1 | 2", "(0 * *) | * | * -> 0 | 1 | 2", "(? * *) | * | * -> 0 | 2 | 3",
                     "(?b,a * *) | * | * -> 1 | 3 | 2", "(?a,a * *) | * | * -> 1 | 3 | 2", "(?a, * *) | * | * -> 1 | 3 | 2",
                     "(?,a * *) | * | * -> 1 | 3 | 2", "(?, * *) | * | * -> 1 | 3 | 2", "(?A * *) | * | * -> 1 | 3 | 2",
                     "(?a b * *) | * | * -> 1 | 3 | 2", "(a? * *) | * | * -> 0 | 2 | 1", "( * *) | * | * -> 0 | 2 | 1",
                     "(a * *) | * | * -> (? 0 1) | 2 | 3", "(a * *) | * | * -> (a 0 1 | 2 | 3", "(a * * ) | * | * -> 0 | 2 | 3",
                     "(a  * *) | * | * -> 0 | 2 | 3", "(a *) | * | * -> 0 | 1 | 2", "{left a . *} | * | * -> . | 0 | 1",
                     ". | {up a . *} | . -> . | 0 | .", ". | {left a . .} | . -> . | ^ | .", ". | {left a ^ *} | . -> . | 0 | .",
                     ". | {left a .} | . -> . | ^ | .", ". | {left  a . ^} | . -> . | ^ | .", ". | (left a . ^) | . -> . | ^ | .",
                     ". | {lefta . ^} | . -> . | ^ | .", ".|^|.->.|^|.", ". |^| . -> . | ^ | .", ".  | ^ | . -> . | ^ | ."):
            if line != "":
                self.raises(line, 1)
            self.raises(good + "\n" + line, 2)
            self.raises(line + "\n" + good, 1)

    def test_empty_lines(self):
        good = LINES[0][1]
        for text, at in (("\n", 1), ("\n\n", 1), (good + "\n", 2), ("\n" + good, 1), (good + "\n\n", 2),
                         (good + "\n\n. | ^ | . -> . | ^ | .", 2)):
            self.raises(text, at)

    def test_patterns_that_meet(self):
        same, one, label = "* | * | * -> 0 | 1 | 2", ". | ^ | . -> . | ^ | .", "(?a * *) | * | * -> 1 | 3 | 2"
        self.raises(same + "\n" + same, 2)
        self.raises(one + "\n" + label + "\n" + one, 3)
        self.raises(one + "\n" + label + "\n" + same, 3)
        # The first wrong line counts, whatever is wrong with it.
        self.raises(one + "\nno\n" + one, 2)
        self.raises(one + "\n" + one + "\nno", 2)
        self.raises("no\n" + one + "\n" + one, 1)
        self.raises(one + "\n" + label + "\n" + label.replace("?a", "?b") + "\nno\n" + one, 3)
        self.raises(one + "\n" + label + "\nno\n" + label, 3)
        self.assertEqual(len(read_list(one + "\n" + label)), 2)

    def test_texts_cut_off_at_each_place_and_with_each_sign_exchanged(self):
        r = random.Random(125)
        lists = [[rewriting] for rewriting, _ in LINES] + [list_of(steps) for steps in (("up",), ("rise",), (("is", "a"), "left"))]
        lists.append([(wide_pattern(11), ((10, (), ()), (), ()))])
        good = 0
        for found in lists:
            text = list_text(found)
            for at in range(len(text) + 1):
                self.check(text[:at])
                for sign in " *.^?(){}|\n,10a" + r.choice(texts.SIGNS):
                    self.check(text[:at] + sign + text[at:])
                    good += self.check(text[:at] + sign + text[at + 1:])
                self.check(text[:at] + text[at + 1:])
        self.assertGreater(good, 100)

    def test_example(self):
        self.assertEqual(read_list(text=LINES[3][1]), [LINES[3][0]])

    def test_what_is_no_string(self):
        for thing in samples.anything() + [b"", [SAME], LINES[0]]:
            if not isinstance(thing, str):
                self.raises(thing, 0)


class LimitsTest(TimedCase):
    def unreadable(self, call, text, at):
        with self.assertRaises(Unreadable) as caught:
            self.quickly(call, text)
        self.assertEqual(caught.exception.at, at)

    def test_brackets_deep_within_one_another(self):
        for head, tail in (("not [", "]"), ("else [", "] []"), ("else [] [", "]"), ("else [not [", "]] [up]")):
            for depth in (10, 30, 400 // (len(head) + len(tail))):
                text = head * depth + tail * depth
                steps = self.quickly(read_script, text)
                self.assertEqual(self.quickly(script_text, steps), text)
                self.unreadable(read_script, text + "]", len(text))
                self.unreadable(read_script, text[:-1], len(text) - 1)
                self.unreadable(read_script, text + " u", len(text) + 2)
            depth = 400 // len(head)
            self.unreadable(read_script, head * depth, len(head) * depth)
            self.unreadable(read_script, head * depth + "?", len(head) * depth)

    def test_texts_of_many_lines(self):
        line = " ".join(["up"] * 133)
        self.unreadable(read_script, "\n".join([line] * 300), len(line))
        self.unreadable(read_script, ("a" * 400 + "\n") * 300, 0)
        self.unreadable(read_script, ("put " + "a" * 396 + "\n") * 300, 400)
        self.assertEqual(self.quickly(read_script, "put " + "a" * 396), (("put", "a" * 396),))

    def test_long_texts_of_scripts(self):
        for rewritings in (list_of(("rise",) * 4), [(LARGE, (("a", 1, (3, 2, 5)), ("left", 3, 4, 0), 1))]):
            steps = script_of(rewritings)
            text = self.quickly(script_text, steps)
            self.assertEqual(self.quickly(read_script, text), steps)
            self.unreadable(read_script, text + "]", len(text))
            self.unreadable(read_script, text + " no", len(text) + 3)

    def test_lists_of_many_lines(self):
        r = random.Random(126)
        deep = [()]
        for _ in range(300):
            deep.append(("left", r.choice(("a", ("a",))), (), deep[-1]) if len(texts.way_text(deep[-1])) < 330 else ())
        lines = []
        for number in range(300):
            label = "".join("abcdefghij"[int(digit)] for digit in str(number))
            pattern = ((label, TREE, TREE), deep[number], TREE)
            lines.append(texts.rewriting_text((pattern, ((label, 0, 0), (), ()))))
        self.assertTrue(max(len(line) for line in lines) <= 400)
        text = "\n".join(lines)
        found = self.quickly(read_list, text)
        self.assertEqual(len(found), 300)
        self.assertEqual(self.quickly(list_text, found), text)
        self.unreadable(read_list, text + "?", 300)
        self.unreadable(read_list, text + "\n", 301)
        self.unreadable(read_list, text + "\n" + lines[7], 301)
        self.unreadable(read_list, text + "\n" + lines[7] + "\nno", 301)
        self.unreadable(read_list, "\n".join(["(a " * 133] * 300), 1)
        self.unreadable(read_list, "\n".join(["(" * 400] * 300), 1)
        self.unreadable(read_list, "\n".join(lines[:200] + ["(a " * 133] * 100), 201)

    def test_deep_patterns(self):
        for line in ("(a " * 60 + "." + " .)" * 60 + " | ^ | . -> . | ^ | .", ". | " + "{left a . " * 35 + "^" + "}" * 35 + " | . -> . | ^ | .",
                     "(? * " * 60 + "*" + ")" * 60 + " | ^ | . -> 120 | ^ | 7"):
            found = self.quickly(read_list, line)
            self.assertEqual(self.quickly(list_text, found), line)

    def test_lists_of_scripts_of_eight_commands(self):
        for steps in EIGHT:
            found = list_of(steps)
            text = self.quickly(list_text, found)
            self.assertEqual(self.quickly(read_list, text), found)
            if found:
                self.unreadable(read_list, text + "\n" + text.split("\n")[0], len(found) + 1)


class ArgumentsTest(unittest.TestCase):
    def test_lists_are_new_and_arguments_stay(self):
        for steps in SCRIPTS:
            found = list_of(steps)
            kept = copy.deepcopy(found)
            text = list_text(found)
            self.assertEqual(found, kept)
            read_list(text).append(5)
            self.assertEqual(read_list(text), kept)
            self.assertEqual([list_text(kept), script_text(steps)], [text, script_text(copy.deepcopy(steps))])


if __name__ == "__main__":
    unittest.main()
