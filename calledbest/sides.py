"""Two houses side by side."""

from calledbest.begins import beginning_sets
from calledbest.errors import TooMany
from calledbest.forks import check_nested
from calledbest.forms import MOST_CALLS, MOST_KINDS, in_order, is_deed


def beside(one, other):
    """Return the house with the kinds of one and behind them those of other, and the calls of both."""
    kinds = one[0] + other[0]
    calls = one[1] + other[1]
    if len(kinds) > MOST_KINDS:
        raise TooMany(MOST_KINDS)
    if len(calls) > MOST_CALLS:
        raise TooMany(MOST_CALLS)
    return kinds, tuple(sorted(calls))


def deeds_in(house, stretch):
    """Return the stretch of those deeds that are deeds of this house."""
    return tuple([deed for deed in stretch if is_deed(house, deed)])


def parted(one, other, stretch):
    """Return the stretches of the deeds of one and of those of other."""
    beside(one, other)
    return deeds_in(one, stretch), deeds_in(other, stretch)


def laid(one, other, mine, its):
    """Return the brief of the house of both that is made of a brief of each."""
    sets = beginning_sets(beside(one, other))
    check_nested(one)
    check_nested(other)
    sides = {part: (in_order(one[0], part), in_order(other[0], part)) for part in sets}
    return {whole: laid_row(sides, mine[sides[whole][0]], its[sides[whole][1]]) for whole in sets}


def laid_row(sides, mine, its):
    """Return the dict of sums for a set, of what the briefs of the two houses have for what it has of each."""
    return {part: mine[one] + its[other] for part, (one, other) in sides.items() if one in mine and other in its}
