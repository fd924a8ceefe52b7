"""Scripts or lists done in another order, and done several times."""

from cursorscripts.counts import need_count
from cursorscripts.facts import ROOT
from cursorscripts.lists import rules_after, rules_in
from cursorscripts.parting import as_it_is, parting_state

MOST = 4


def commute(steps, other):
    """None if two scripts or lists commute, otherwise a least state for which their order makes a difference."""
    rules, others = rules_in(steps), rules_in(other)
    return parting_state(rules_after(rules, others), rules_after(others, rules), as_it_is)


def repeats(steps, most):
    """The first (m, n) such that steps done m times are alike to them done n times; None if there is none."""
    rules = rules_in(steps)
    need_count(most, 1, MOST)
    by_times = [[({}, ROOT)]]
    for n in range(1, most + 1):
        by_times.append(rules_after(by_times[n - 1], rules))
        for m in range(n):
            if parting_state(by_times[m], by_times[n], as_it_is) is None:
                return (m, n)
    return None
