"""Which of many patterns have a state in common."""

from cursorscripts.facts import may_meet

# Groups that are no larger are cheaper to go through than to divide.
SMALL = 8


def _divided(numbers, place, many):
    """Groups of patterns, told apart by what stands at a place; a pattern that leaves it open is in all of them."""
    groups, either = {}, []
    for number in numbers:
        fact = many[number].get(place)
        if fact is None or isinstance(fact, tuple):
            either.append(number)
        else:
            groups.setdefault(fact, []).append(number)
    return [sorted(group + either) for group in groups.values()]


def _division(numbers, many):
    """Clearly smaller groups that two patterns of a group are both in, if they have a state in common; or None."""
    for number in (numbers[0], numbers[len(numbers) // 2], numbers[-1]):
        for place in many[number]:
            groups = _divided(numbers, place, many)
            most = max([len(group) for group in groups], default=len(numbers))
            if 4 * most <= 3 * len(numbers):
                return groups
    return None


def groups_of(many):
    """Groups of the numbers, ascending, of patterns: two with a state in common are in one of them together."""
    found, waiting = [], [list(range(len(many)))]
    while waiting:
        numbers = waiting.pop()
        groups = None if len(numbers) <= SMALL else _division(numbers, many)
        if groups is None:
            found.append(numbers)
        else:
            waiting.extend(groups)
    return found


def meeting_in(numbers, many):
    """The first (k, j) of the numbers, j below k, such that patterns k and j have a state in common; or None."""
    for at, k in enumerate(numbers):
        for j in numbers[:at]:
            if may_meet(many[k], many[j]):
                return (k, j)
    return None


def first_meeting(many):
    """The smallest k, and for it the smallest j below k, such that patterns k and j have a state in common; or None."""
    found = [meeting_in(numbers, many) for numbers in groups_of(many)]
    return min([pair for pair in found if pair is not None], default=None)
