"""Crossings: what keeps a house from being nested in any order of its kinds."""

from calledbest.errors import Crosses


def calls_with(house, kind, without):
    """Return the list of the calls that accept a kind and not the kind without."""
    return [call for call in house[1] if kind in call and without not in call]


def crossings_of(house):
    """Return the ascending list of all crossings of a house."""
    return sorted([
        (both, one, other, kind, behind)
        for both in house[1]
        for at, kind in enumerate(both)
        for behind in both[at + 1:]
        for one in calls_with(house, kind, behind)
        for other in calls_with(house, behind, kind)
    ])


def is_crossing(house, thing):
    """Tell whether thing is a crossing of the house."""
    return thing in crossings_of(house)


def check_uncrossed(house):
    """Raise Crosses with the least crossing if the house has one."""
    crossings = crossings_of(house)
    if crossings != []:
        raise Crosses(crossings[0])
