"""The first script made of given commands that does what another one does."""

from cursorscripts.commands import check_command
from cursorscripts.counts import need_count
from cursorscripts.errors import InvalidCommands, TooMany
from cursorscripts.lists import made_by, rules_in, script_rules
from cursorscripts.parting import as_it_is, parting_state

MOST = 3
MANY = 30


def _need_commands(thing):
    if not isinstance(thing, (tuple, list)):
        raise InvalidCommands(None)
    for place, command in enumerate(thing):
        if check_command(command) is not None or command in thing[:place]:
            raise InvalidCommands(place)


class Doing:
    """The rules of a script or list, and what they make of some states."""

    def __init__(self, rules):
        self.rules = rules
        self.made = []

    def made_of(self, states):
        """What is made of each of some states, behind which there may be more the next time."""
        for state in states[len(self.made):]:
            self.made.append(made_by(self.rules, state))
        return self.made


def _are_alike(one, other, states):
    """Whether two doings are alike; a state that shows that they are not is put behind the states."""
    # Most that are not alike differ for a state that has shown this of others.
    if one.made_of(states) != other.made_of(states):
        return False
    state = parting_state(one.rules, other.rules, as_it_is)
    if state is None:
        return True
    states.append(state)
    return False


def _is_alike_to_one(doing, others, states):
    for other in others:
        if _are_alike(doing, other, states):
            return True
    return False


def shortest(steps, commands, most):
    """The first script made of the commands, of at most so many, that is alike to steps; None if there is none."""
    wanted = Doing(rules_in(steps))
    _need_commands(commands)
    need_count(most, 0, MOST)
    first_ones, states, scripts = [], [], [()]
    for _ in range(most + 1):
        longer = []
        for script in scripts:
            doing = Doing(script_rules(script))
            if _is_alike_to_one(doing, first_ones, states):
                continue
            if len(first_ones) == MANY:
                raise TooMany()
            if _are_alike(doing, wanted, states):
                return script
            first_ones.append(doing)
            longer.extend([script + (command,) for command in commands])
        scripts = longer
    return None
