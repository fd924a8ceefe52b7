"""The whole program: what one module returns is passed to the others, and all that takes it agrees (points 1 to 20)."""

import copy
import pathlib
import random
import re
import unittest

import models
import samples
from cursorscripts.alike import alike, check_list_of, fails, within, works
from cursorscripts.back import back, check_back, check_clash, clash
from cursorscripts.before import before, sure
from cursorscripts.commands import check_script, mirrored, run
from cursorscripts.counting import count_fits, count_states, count_works
from cursorscripts.desk import Desk
from cursorscripts.errors import CursorError, Failed, NoBack, NotOneToOne, TooMany
from cursorscripts.likeness import alike_in, within_in
from cursorscripts.lists import both, check_list, done_by, either, list_of
from cursorscripts.making import script_of
from cursorscripts.patterns import check_pattern, filled, fits, least_state, left_out, less, meet, unknowns
from cursorscripts.places import check_far, done_at, far, sent
from cursorscripts.repeats import commute, repeats
from cursorscripts.rewritings import check_rewriting, done, follow, rewritings_of
from cursorscripts.search import shortest
from cursorscripts.trees import check_state, is_tree, mirror_of, nodes_of, path_of, state_at, whole
from cursorscripts.writing import list_text, read_list, read_script, script_text
from models import ANY, STATES
from test_lists import EIGHT, SCRIPTS

DOC = pathlib.Path(__file__).resolve().parent.parent.parent / "shared" / "DOC.md"
LEAF = ("a", (), ())
WHOLE = ("a", ("b", LEAF, ()), ("c", (), LEAF))
LABELS = ("a", "b", "c")
LIKENESSES = ("state", "tree and hand", "tree", "works")
R = random.Random(141)
MANY = SCRIPTS + [models.random_script(R, R.randint(1, 4)) for _ in range(40)]
# Each takes a script or a list.
STEPS = (
    lambda x: alike(x, ("left",)), lambda x: alike((), x), lambda x: within(x, ()), lambda x: within((), x), fails, works,
    lambda x: count_works(x, 3, LABELS), clash, lambda x: check_clash(x, (STATES[0], STATES[3])), back,
    lambda x: check_back(x, [(ANY, (0, 1, 2))]), lambda x: commute(x, ("rise",)), lambda x: commute(("up",), x),
    lambda x: repeats(x, 1), far, lambda x: check_far(x, (STATES[0], STATES[0])), lambda x: done_at(WHOLE, ("left",), x),
    lambda x: shortest(x, ["left", "up"], 2), lambda x: before(x, ANY), lambda x: sure(ANY, x, ((), ("way",), ("tree",))),
    lambda x: alike_in("tree", x, ()), lambda x: within_in("works", ("up",), x),
)
LISTS = (check_list, lambda x: done_by(x, STATES[9]), lambda x: both(x, x), lambda x: either(x[:1], x), script_of, list_text,
         lambda x: check_list_of(("left",), x), lambda x: check_back(("left",), x))
ALONE = (check_script, mirrored, list_of, lambda x: run(x, STATES[20]), script_text, lambda x: sent(x, ["left", "right"]),
         lambda x: check_list_of(x, []), lambda x: Desk().put("a", STATES[3]))


def answer(call, *arguments):
    try:
        return ("returned", call(*arguments))
    except CursorError as error:
        return (error.__class__, vars(error))


class PassingTest(unittest.TestCase):
    def test_the_same_list_or_script_to_each_function(self):
        for steps in SCRIPTS:
            found = list_of(steps)
            kept = copy.deepcopy(found)
            first = {}
            for _ in range(2):
                for number, call in enumerate(STEPS + LISTS):
                    told = answer(call, found)
                    self.assertEqual(found, kept)
                    self.assertEqual(first.setdefault(number, told), told)
            for call in STEPS + ALONE:
                self.assertEqual(answer(call, steps), answer(call, copy.deepcopy(steps)))
            self.assertEqual(steps, read_script(script_text(steps)))

    def test_what_a_caller_does_to_what_was_returned_changes_no_later_answer(self):
        desk = Desk()
        desk.put("a", STATES[5])
        desk.do("a", ("copy",))
        pattern = ((("a",), ("tree",), ()), ("left", (), ("tree",), ("way",)), ("tree",))
        for call in (lambda: list_of(("rise",)), lambda: before(("rise",), ANY), lambda: back(("left",)), lambda: unknowns(pattern),
                     lambda: less(ANY, pattern), lambda: rewritings_of("up"), lambda: both([(ANY, (2, 1, 0))], list_of(("up",))),
                     lambda: either(list_of(("up",)), list_of(("left",))), lambda: read_list("* | * | * -> 2 | 1 | 0"),
                     desk.deeds, desk.names, lambda: before([(ANY, (2, 1, 0))], ANY), lambda: either([], list_of(("up",)))):
            expected = copy.deepcopy(call())
            changed = call()
            self.assertIsInstance(changed, list)
            changed.append(changed)
            changed[0] = None
            self.assertEqual(call(), expected)

    def test_lists_that_are_passed_do_not_become_what_is_returned(self):
        for steps in SCRIPTS:
            found = list_of(steps)
            kept = copy.deepcopy(found)
            for made in (either(found, []), either([], found), both(found, list_of(())), both(list_of(()), found)):
                made.append(5)
                made[:1] = []
            self.assertEqual(found, kept)


class AgreeingTest(unittest.TestCase):
    def test_scripts_lists_and_texts(self):
        for steps in MANY + EIGHT[3::3]:
            found = list_of(steps)
            read = read_list(list_text(found))
            self.assertEqual(read, found)
            self.assertIsNone(alike(read, read_script(script_text(steps))))
            self.assertIsNone(check_list_of(steps, read))
            self.assertEqual(far(steps) is None, far(read) is None)
            for likeness in LIKENESSES:
                self.assertIsNone(alike_in(likeness, read, steps))
                self.assertIsNone(within_in(likeness, steps, read))

    def test_scripts_of_lists(self):
        for steps in MANY:
            script = script_of(list_of(steps))
            self.assertIsNone(check_script(script))
            self.assertIsNone(alike(script, steps))
            self.assertIsNone(check_list_of(script, list_of(steps)))
            self.assertEqual(far(script) is None, far(steps) is None)
            self.assertEqual(read_script(script_text(script)), script)
            for state in STATES[::20]:
                self.assertEqual(run(script, state), run(steps, state))

    def test_rewritings(self):
        for steps in MANY:
            for rewriting in list_of(steps)[:6]:
                self.assertIsNone(check_rewriting(rewriting))
                pattern = rewriting[0]
                state = least_state(pattern)
                self.assertEqual(filled(pattern, fits(pattern, state)), state)
                self.assertEqual(done(rewriting, state), run(steps, state))
                then = follow(rewriting, rewriting)
                again = done(rewriting, run(steps, state))
                self.assertEqual(None if then is None else done(then, state), again)

    def test_conditions_and_counting(self):
        for steps in MANY:
            found = before(steps, ANY)
            self.assertEqual(len(unknowns(ANY)), 3)
            for nodes in range(5):
                self.assertEqual(count_works(steps, nodes, LABELS), sum(count_fits(pattern, nodes, LABELS) for pattern in found))
                self.assertEqual(count_works(list_of(steps), nodes, ()), count_works(steps, nodes, ()))
            self.assertLessEqual(count_works(steps, 9, LABELS), count_states(9, LABELS))
            self.assertEqual(found == [], works(steps) is None)
            if len(found) < 4:
                self.assertEqual(left_out(found) is None, fails(steps) is None)
            for state in (works(steps), fails(steps)):
                if state is not None:
                    self.assertEqual(sum(fits(pattern, state) is not None for pattern in found), int(run(steps, state) is not None))
            for pattern in found[:5]:
                self.assertIsNone(check_pattern(pattern))
                self.assertIsNone(sure(pattern, steps, ANY))
                self.assertEqual(meet(pattern, ANY), pattern)
                self.assertEqual(less(pattern, ANY), [])
                self.assertTrue(all(meet(part, pattern) is None for part in less(ANY, pattern)))

    def test_a_script_leads_to_what_is_made(self):
        for steps in MANY:
            for state in STATES[::30]:
                made = run(steps, state)
                if made is not None:
                    self.assertIsNone(sure(state, steps, made))
                    self.assertEqual(sum(fits(pattern, state) is not None for pattern in before(steps, made)), 1)

    def test_states_that_were_told(self):
        for steps in MANY:
            told = [alike(steps, ("left",)), within(steps, ("copy",)), fails(steps), works(steps), commute(steps, ("swap",)),
                    sure(ANY, steps, ((), ("way",), ())), alike_in("tree", steps, ("up",)), within_in("works", steps, ("top",))]
            told += list(clash(steps) or ()) + list(far(steps) or ())
            for state in told:
                if state is None:
                    continue
                self.assertIsNone(check_state(state))
                self.assertTrue(is_tree(whole(state)))
                self.assertEqual(state_at(whole(state), path_of(state), state[2]), state)
                self.assertEqual(nodes_of(mirror_of(mirror_of(state))), nodes_of(state))
                self.assertEqual(fits(state, state), ())
                self.assertEqual(count_fits(state, nodes_of(state), ()), 0 if nodes_of(state) else 1)
                made = run(mirrored(steps), mirror_of(state))
                self.assertEqual(made, None if run(steps, state) is None else mirror_of(run(steps, state)))
                desk = Desk()
                desk.put("a", state)
                if run(steps, state) is None:
                    with self.assertRaises(Failed):
                        desk.do("a", steps)
                else:
                    desk.do("a", steps)
                    self.assertEqual([desk.state("a"), desk.deeds()], [done_by(list_of(steps), state), [("a", steps)]])

    def test_back_and_clash(self):
        for steps in MANY:
            pair = clash(steps)
            if pair is not None:
                self.assertIs(check_clash(list_of(steps), pair), True)
                with self.assertRaises(NotOneToOne):
                    back(list_of(steps))
                continue
            try:
                found = back(steps)
            except NoBack:
                continue
            self.assertIsNone(check_back(steps, read_list(list_text(found))))
            self.assertIsNone(alike(back(found), steps))
            there = both(list_of(steps), found)
            self.assertIsNone(within(there, ()))
            self.assertEqual(works(there) is None, works(steps) is None)

    def test_order_and_times(self):
        for number, steps in enumerate(MANY):
            other = MANY[number - 1]
            one, two = list_of(steps), list_of(other)
            if models.commands_in(steps) + models.commands_in(other) <= 8:
                self.assertEqual(commute(steps, other) is None, alike(both(one, two), both(two, one)) is None)
            if models.commands_in(steps) <= 4:
                pair = repeats(steps, 2)
                made = {0: (), 1: steps, 2: both(one, one)}
                if pair is not None:
                    self.assertIsNone(alike(made[pair[0]], made[pair[1]]))
            self.assertIsNone(alike((("else", steps, other),), either(one, two)))

    def test_searching(self):
        for steps in MANY:
            commands = list({command: True for command in steps[:3]}) or ["up"]
            commands = [command for command in commands if models.commands_in((command,)) < 3]
            try:
                script = shortest(list_of(steps), commands, 2)
            except TooMany:
                continue
            if script is not None:
                self.assertIsNone(alike(script, steps))
                self.assertEqual(shortest(script, commands, 3), script)
            self.assertEqual(script is None, shortest(steps, commands, 2) is None)

    def test_places(self):
        for steps in MANY:
            for path in ((), ("left",), ("right", "right")):
                script = sent(steps, path)
                self.assertIsNone(check_list_of(script, list_of(script)))
                self.assertEqual(done_at(WHOLE, path, steps), done_at(WHOLE, path, list_of(steps)))
                if far(steps) is None:
                    self.assertIsNone(far(script))
                    made = run(script, (WHOLE, (), ()))
                    self.assertEqual(done_at(WHOLE, path, steps), None if made is None else whole(made))
                pair = far(script)
                self.assertTrue(pair is None or check_far(script, pair))

    def test_likenesses(self):
        for number, steps in enumerate(MANY):
            other = MANY[number - 1]
            told = [alike_in(likeness, steps, other) for likeness in LIKENESSES]
            self.assertEqual(told[0] is None, alike(steps, other) is None)
            only_one = [works((("not", (("not", one),)), ("not", two))) for one, two in ((steps, other), (other, steps))]
            self.assertEqual(told[3] is None, only_one == [None, None])
            for likeness, state in zip(LIKENESSES, told):
                both_ways = [within_in(likeness, steps, other), within_in(likeness, other, steps)]
                self.assertEqual(state is None, both_ways == [None, None])

    def test_mirrors(self):
        for steps in MANY:
            other = mirrored(steps)
            self.assertEqual(far(other) is None, far(steps) is None)
            self.assertEqual(clash(other) is None, clash(steps) is None)
            self.assertEqual(repeats(other, 1), repeats(steps, 1))
            self.assertEqual([count_works(other, nodes, LABELS) for nodes in range(4)],
                             [count_works(steps, nodes, LABELS) for nodes in range(4)])


class DocumentTest(unittest.TestCase):
    def run_lines(self, block):
        """Runs an example; the pairs of what was told and what the document says."""
        names, lines, pairs = {}, block.strip().split("\n"), []
        while lines:
            source, expected = lines.pop(0).removeprefix(">>> "), []
            while lines and not lines[0].startswith(">>> "):
                expected.append(lines.pop(0))
            try:
                told = repr(eval(source, names)) if expected and not re.match(r"from |\w+ = ", source) else exec(source, names)
            except CursorError as error:
                fields = ", ".join(f"{name}={value!r}" for name, value in vars(error).items())
                told = f"raises {error.__class__.__name__}({fields})"
            pairs.append((told, "\n".join(expected) if expected else None))
        return pairs

    @unittest.skipUnless(DOC.is_file(), "the document is not here")
    def test_examples(self):
        blocks = [block for block in re.findall(r"```\n(.*?)```", DOC.read_text(), re.DOTALL) if ">>>" in block]
        self.assertGreater(len(blocks), 30)
        for block in blocks:
            for told, expected in self.run_lines(block):
                self.assertEqual(told, expected, block)

    def test_numbers_of_states(self):
        for nodes in range(4):
            self.assertEqual(count_states(nodes, ("a", "b")), len(samples.states(nodes, ("a", "b"))))


if __name__ == "__main__":
    unittest.main()
