"""How many unlike stretches there are."""

from calledbest.acts import deeds_of
from calledbest.alike import act_behind, check_few, telling_amounts
from calledbest.errors import TooMany
from calledbest.forks import forks_of

MOST_CALLS = 10
MOST_ACTS = 1000


def unlike_stretches(house, many):
    """Return a list of 2 ** many stretches of many calls, no two of them alike, None if the house is nested."""
    if many > MOST_CALLS:
        raise TooMany(MOST_CALLS)
    forks = forks_of(house)
    if forks == []:
        return None
    # With n things of the kind ahead and many of the one behind, the latter tell how often the first call of the
    # fork stands behind the first n calls: for all n that is the whole stretch.
    calls = [("call", call) for call in forks[0][:2]]
    stretches = [()]
    for _ in range(many):
        stretches = [(*stretch, call) for stretch in stretches for call in calls]
    return stretches


def acts_behind(house, known, acts):
    """Return the list of the different acts of the stretches with one of these acts, and behind it a deed."""
    found = {}
    for act in acts:
        for deed in deeds_of(house):
            found[act_behind(house, known, act, deed)] = True
        if len(found) > MOST_ACTS:
            raise TooMany(MOST_ACTS)
    return list(found)


def acts_many(house, length):
    """Return how many acts the stretches of this length have."""
    check_few(house, length, MOST_ACTS)
    known = {}
    acts = [tuple(telling_amounts(house, [length for _ in house[0]]))]
    for _ in range(length):
        acts = acts_behind(house, known, acts)
    return len(acts)
