"""What a house tells of its kinds and calls, and houses made of it."""

from calledbest.errors import NoCall, NoKind, TooMany
from calledbest.forms import MOST_CALLS, in_order, is_call


def accepting(house, kind):
    """Return the ascending tuple of the calls that accept a kind."""
    if kind not in house[0]:
        raise NoKind(kind)
    return tuple([call for call in house[1] if kind in call])


def tail_of(house, call, kind):
    """Return the kinds of a call that are behind one that it accepts."""
    if not is_call(house, call):
        raise NoCall(call)
    if kind not in call:
        raise NoKind(kind)
    return call[call.index(kind) + 1:]


def reordered(house, kinds):
    """Return the house with this order of its kinds."""
    return kinds, tuple(sorted([in_order(kinds, call) for call in house[1]]))


def renamed_house(house, names):
    """Return the house in which each kind has its new name."""
    kinds = tuple([names[kind] for kind in house[0]])
    calls = [tuple([names[kind] for kind in call]) for call in house[1]]
    return kinds, tuple(sorted(calls))


def part_of(house, calls):
    """Return the house with these calls alone, and the kinds in them."""
    kinds = tuple([kind for kind in house[0] if any([kind in call for call in calls])])
    return kinds, calls


def with_call(house, kinds):
    """Return the house with this call, too."""
    if is_call(house, kinds):
        return house
    if len(house[1]) == MOST_CALLS:
        raise TooMany(MOST_CALLS)
    return house[0], tuple(sorted([*house[1], kinds]))
