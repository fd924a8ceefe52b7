"""What has to hold before a script or list is done, for something to hold behind it."""

from cursorscripts.facts import ROOT, matched, pattern_of
from cursorscripts.lists import rules_in
from cursorscripts.parting import Least, as_it_is, offer_unmade
from cursorscripts.patterns import facts_in


def before(steps, pattern):
    """Patterns of the states of which steps make one that fits pattern, no state fitting two of them."""
    rules, wanted = rules_in(steps), facts_in(pattern)
    found = [matched(wanted, state, facts) for facts, state in rules]
    return [pattern_of(fit[0]) for fit in found if fit is not None]


def sure(pattern, steps, other):
    """None if steps lead from pattern to other, otherwise a least state that shows that they do not."""
    rules = rules_in(steps)
    begun, wanted = facts_in(pattern), facts_in(other)
    cases = []
    for facts, state in rules:
        fit = matched(begun, ROOT, facts)
        if fit is not None:
            cases.append((fit[0], state, None))
    least = Least()
    # The state that is made only has to fit, so what a rule would make of it does not matter.
    offer_unmade(least, cases, [(wanted, ROOT)], as_it_is)
    return least.state
