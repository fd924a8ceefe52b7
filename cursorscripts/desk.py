"""A desk on which scripts are done to states that are kept by names."""

from cursorscripts.commands import need_script, state_after
from cursorscripts.errors import Failed, InvalidName, InvalidNumber, InvalidState, Needed, NoSuchName, NothingToUndo
from cursorscripts.trees import check_state, is_label

LONGEST = 8


class Desk:
    """States by names, and the scripts that were done to them."""

    def __init__(self):
        self.kept = {}
        # Each deed is a tuple (name, script, state ahead of it). This list is not changed: another one takes its place.
        self.all_deeds = []
        # For each call that may be taken back: its name, the state it had or None, and the deeds there were.
        self.past = []

    def _change(self, name, state, all_deeds):
        self.past.append((name, self.kept.get(name), self.all_deeds))
        self._keep(name, state)
        self.all_deeds = all_deeds

    def _keep(self, name, state):
        """Keeps a state by a name; if it is None, there is none any more."""
        if state is not None:
            self.kept[name] = state
        elif name in self.kept:
            del self.kept[name]

    def _need_name(self, name):
        if not isinstance(name, str) or name not in self.kept:
            raise NoSuchName(name)

    def _deeds_without(self, name):
        return [deed for deed in self.all_deeds if deed[0] != name]

    def put(self, name, state):
        """Keeps a state by a name."""
        if not is_label(name) or len(name) > LONGEST:
            raise InvalidName(name)
        if check_state(state) is not None:
            raise InvalidState(state)
        self._change(name, state, self._deeds_without(name))

    def drop(self, name):
        """Removes the state of a name."""
        self._need_name(name)
        self._change(name, None, self._deeds_without(name))

    def do(self, name, steps):
        """Does a script to the state of a name."""
        self._need_name(name)
        need_script(steps)
        state = self.kept[name]
        made = state_after(steps, state)
        if made is None:
            raise Failed(name)
        self._change(name, made, self.all_deeds + [(name, steps, state)])

    def names(self):
        """The ascending list of the names."""
        return sorted(self.kept)

    def state(self, name):
        """The state of a name."""
        self._need_name(name)
        return self.kept[name]

    def deeds(self):
        """The list of the deeds, as tuples (name, script)."""
        return [(name, steps) for name, steps, _ in self.all_deeds]

    def leave_out(self, number):
        """Leaves a deed out."""
        if not isinstance(number, int) or isinstance(number, bool) or not 0 <= number < len(self.all_deeds):
            raise InvalidNumber(number)
        name, _, state = self.all_deeds[number]
        left = self.all_deeds[:number]
        for place in range(number + 1, len(self.all_deeds)):
            deed = self.all_deeds[place]
            if deed[0] == name:
                deed = (name, deed[1], state)
                state = state_after(deed[1], state)
                if state is None:
                    raise Needed(place)
            left.append(deed)
        self._change(name, state, left)

    def undo(self):
        """Takes back the last call of put, drop, do or leave_out that is not yet taken back."""
        if not self.past:
            raise NothingToUndo()
        name, state, all_deeds = self.past.pop()
        self._keep(name, state)
        self.all_deeds = all_deeds
