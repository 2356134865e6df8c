"""Houses made nested: by calls left out or added, or by kinds that merge."""

from itertools import combinations

from calledbest.begins import is_within, sets_of
from calledbest.crossings import crossings_of
from calledbest.errors import TooMany
from calledbest.forks import forks_of, is_nested
from calledbest.forms import MOST_CALLS, in_order, is_call
from calledbest.houses import with_call


def meets_all(calls, lots):
    """Tell whether some member of each of the lots is one of these calls."""
    return all([any([call in calls for call in lot]) for lot in lots])


def least_outs(house, lots):
    """Return the list of the ascending tuples of calls that meet all lots, and do not without any one of them."""
    found = []
    for many in range(len(house[1])):
        for out in combinations(house[1], many):
            if meets_all(out, lots) and not any([is_within(less, out) for less in found]):
                found.append(out)
    return found


def forked_calls(house):
    """Return the list of the couples of calls that no nested house has both."""
    return sorted({fork[:2] for fork in forks_of(house)})


def crossed_calls(house):
    """Return the list of the calls, three by three, that no house has all that is nested in any order of its kinds."""
    return sorted({crossing[:3] for crossing in crossings_of(house)})


def least_calls_out(house):
    """Return the ascending list of the least tuples of calls without which the house is nested."""
    return sorted(least_outs(house, forked_calls(house)))


def calls_to_add(house):
    """Return the ascending list of the SETS with which, as a further call, the house is nested."""
    if len(house[1]) == MOST_CALLS:
        raise TooMany(MOST_CALLS)
    further = [part for part in sets_of(house[0]) if part != () and not is_call(house, part)]
    return sorted([part for part in further if is_nested(with_call(house, part))])


def merged(house, one, other):
    """Return the house in which one stands for other."""
    kinds = tuple([kind for kind in house[0] if kind != other])
    calls = {in_order(kinds, (*call, one) if other in call else call) for call in house[1]}
    return kinds, tuple(sorted(calls))


def merges_that_nest(house):
    """Return the ascending list of the couples of kinds that merge into a nested house."""
    kinds = sorted(house[0])
    return [(one, other) for one in kinds for other in kinds if one != other and is_nested(merged(house, one, other))]


def nested_by(house):
    """Return how few calls can be left out so that the rest is nested in its order, and so in some order."""
    # What crosses, crosses in any order, and what does not is nested in some one.
    return len(least_outs(house, forked_calls(house))[0]), len(least_outs(house, crossed_calls(house))[0])
