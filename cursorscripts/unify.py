"""What makes two terms equal.

The unknowns of the terms have names, no name standing in both terms; barred tells of the
names of labels which labels they are not.
"""

from cursorscripts.facts import barred_with, is_unknown, new_labels, rebuilt


class Equations:
    """What the unknowns of terms have to be, to make terms equal."""

    def __init__(self, barred):
        self.bound = {}
        self.barred = dict(barred)

    def known(self, term):
        """The term, or what it has to be if it is an unknown."""
        here = term
        while is_unknown(here) and here[0] in self.bound:
            here = self.bound[here[0]]
        return here

    def _order(self, term):
        """All parts of a term as it has to be, each behind what it is a part of."""
        order, waiting = [], [term]
        while waiting:
            here = self.known(waiting.pop())
            order.append(here)
            if isinstance(here, tuple) and len(here) > 1:
                waiting.extend(here[:-4:-1])
        return order

    def _bind(self, unknown, term):
        """Makes an unknown equal to another term; whether that is possible."""
        name = unknown[0]
        barred = self.barred.get(name, ())
        if isinstance(term, str):
            if term in barred:
                return False
        elif is_unknown(term):
            self.barred[term[0]] = barred_with(barred, self.barred.get(term[0], ()))
        elif unknown in self._order(term):
            # A tree is no part of itself.
            return False
        self.bound[name] = term
        return True

    def _make_equal(self, one, other):
        """Makes two terms equal on the outside: the pairs of parts to make equal, None if it is not possible."""
        if is_unknown(one) and one == other:
            return []
        if is_unknown(one):
            return [] if self._bind(one, other) else None
        if is_unknown(other):
            return [] if self._bind(other, one) else None
        if isinstance(one, str) or isinstance(other, str):
            return [] if one == other else None
        if len(one) != len(other) or one[:-3] != other[:-3]:
            return None
        return list(zip(one[-3:], other[-3:]))

    def solve(self, one, other):
        """Makes two states equal; whether that is possible."""
        waiting = list(zip(one, other))
        while waiting:
            first, second = waiting.pop()
            pairs = self._make_equal(self.known(first), self.known(second))
            if pairs is None:
                return False
            waiting.extend(pairs)
        return True

    def least(self, term, labels):
        """The least that a term may be; labels are those of unknowns, by their names."""
        order = self._order(term)
        things = {here[0]: labels.get(here[0], ()) for here in order if is_unknown(here)}
        return rebuilt(order, things)

    def least_labels(self, names):
        """For each name of a label that is not bound a label that is not barred."""
        return {name: new_labels(1, self.barred.get(name, ()))[0] for name in names}
