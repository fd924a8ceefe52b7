"""Scripts done to all states at once.

A cell is a tuple (facts, state): the states of which the facts are true, and the term that
tells what has become of them. Where a command looks at what is unknown, a cell is divided.
"""

from cursorscripts.commands import after_simple, holds_scripts
from cursorscripts.facts import ROOT
from cursorscripts.sorting import label_cases, shape_cases

FOCUS_WORDS = ("left", "right", "swap", "liftleft", "liftright", "rise", "empty", "full", "put", "set", "is", "isnot")
WAY_WORDS = ("up", "rise", "top", "inner", "inleft", "inright")
LABEL_TESTS = ("is", "isnot")


def _with_focus(cell):
    facts, (focus, way, hand) = cell
    return [(more, (here, way, hand)) for more, here in shape_cases(focus, facts)]


def _with_way(cell):
    facts, (focus, way, hand) = cell
    return [(more, (focus, here, hand)) for more, here in shape_cases(way, facts)]


def _with_label(label, cell):
    facts, (focus, way, hand) = cell
    if focus == ():
        return [cell]
    return [(more, ((here,) + focus[1:], way, hand)) for more, here in label_cases(focus[0], label, facts)]


def _looked_at(command, cell):
    """The cells into which a cell is divided by all that a command looks at."""
    word = command if isinstance(command, str) else command[0]
    cells = [cell]
    if word in FOCUS_WORDS:
        cells = _with_focus(cell)
    if word in WAY_WORDS:
        cells = [more for part in cells for more in _with_way(part)]
    if word in LABEL_TESTS:
        cells = [more for part in cells for more in _with_label(command[1], part)]
    return cells


def _after_simple_command(command, cell):
    made, failed = [], []
    for facts, (focus, way, hand) in _looked_at(command, cell):
        state = after_simple(command, focus, way, hand)
        if state is None:
            failed.append(facts)
        else:
            made.append((facts, state))
    return (made, failed)


def _after_command(command, cell):
    if not holds_scripts(command):
        return _after_simple_command(command, cell)
    made, failed = after_script(command[1], cell)
    state = cell[1]
    if command[0] == "not":
        return ([(facts, state) for facts in failed], [facts for facts, _ in made])
    fails = []
    for facts in failed:
        made_then, failed_then = after_script(command[2], (facts, state))
        made = made + made_then
        fails.extend(failed_then)
    return (made, fails)


def after_script(steps, cell):
    """What a script does to a cell: the list of cells that it makes, and that of the facts with which it fails."""
    cells, failed = [cell], []
    for command in steps:
        made = []
        for part in cells:
            made_of_it, failed_of_it = _after_command(command, part)
            made.extend(made_of_it)
            failed.extend(failed_of_it)
        cells = made
    return (cells, failed)


def cells_of(steps):
    """The cells that a script makes of all states."""
    return after_script(steps, ({}, ROOT))[0]
