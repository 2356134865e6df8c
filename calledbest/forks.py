"""Forks: what keeps a house from being nested."""

from calledbest.errors import NotNested
from calledbest.houses import accepting, tail_of


def forks_between(one, other):
    """Return the list of the forks whose first two items are these two calls."""
    return [
        (one, other, kind, behind)
        for at, kind in enumerate(one) if kind in other
        for behind in one[at + 1:] if behind not in other
    ]


def forks_of(house):
    """Return the ascending list of all forks of a house."""
    return sorted([fork for one in house[1] for other in house[1] for fork in forks_between(one, other)])


def is_fork(house, thing):
    """Tell whether thing is a fork of the house."""
    return thing in forks_of(house)


def is_nested(house):
    """Tell whether the house has no fork: whether all calls that accept a kind have the same tail of it."""
    tails = {}
    for call in house[1]:
        for at, kind in enumerate(call):
            if tails.setdefault(kind, call[at:]) != call[at:]:
                return False
    return True


def check_nested(house):
    """Raise NotNested with the least fork if the house has one."""
    if not is_nested(house):
        raise NotNested(forks_of(house)[0])


def next_kinds(house):
    """Return the dict from each kind to the one directly behind it in its calls, or None."""
    check_nested(house)
    return {kind: kind_behind(house, kind) for kind in sorted(house[0])}


def kind_behind(house, kind):
    """Return the kind directly behind a kind of a nested house, or None."""
    # In a nested house all calls that accept the kind have the same tail of it.
    tail = tail_of(house, accepting(house, kind)[0], kind)
    return tail[0] if len(tail) > 0 else None
