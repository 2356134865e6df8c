"""Calls behind turns: which kinds come apart by them, and what best first loses then.

A STATE is a tuple (word, mine, its): by the word two kinds become mine and its. Mine is a kind, its may be None.
"""

from itertools import permutations

from calledbest.acts import log_of
from calledbest.orders import keeps
from calledbest.turns import kind_by


def call_parting(house, mine, its):
    """Return the least call that accepts mine and not its, which may be None; None if none does."""
    for call in house[1]:
        if mine in call and its not in call:
            return call
    return None


def states_behind(turns, seen, states):
    """Return the list of the STATES one turn behind these; keep the kinds that come about in seen, each couple once."""
    found = []
    for word, mine, its in states:
        for index in range(len(turns)):
            kinds = kind_by(turns, mine, (index,)), kind_by(turns, its, (index,))
            # What the first kind becomes must be accepted by some call: nothing is by none.
            if kinds[0] is not None and kinds not in seen:
                seen[kinds] = True
                found.append(((*word, index), *kinds))
    return found


def parts_later(house, turns, one, other):
    """Return the first word by which one becomes a kind that a call accepts, and other none such, and the call."""
    states = [((), one, other)]
    seen = {(one, other): True}
    while states != []:
        for word, mine, its in states:
            call = call_parting(house, mine, its)
            if call is not None:
                return word, call
        # Ascending words lead to ascending words: the first of equally long ones comes first.
        states = states_behind(turns, seen, states)
    return None


def is_accepted_with(house, one, other):
    """Tell whether some call accepts both kinds."""
    return any([one in call and other in call for call in house[1]])


def day_forks(house, turns):
    """Return the ascending list of all day forks."""
    found = []
    for call in house[1]:
        for at, kind in enumerate(call):
            for behind in call[at + 1:]:
                parting = parts_later(house, turns, kind, behind)
                if parting is not None:
                    found.append((call, kind, behind, *parting))
    return sorted(found)


def day_losing_log(house, turns):
    """Return a day log with the best 2 of which one call is served, None if there is no day fork."""
    forks = day_forks(house, turns)
    if forks == []:
        return None
    call, kind, behind, word, later = forks[0]
    # The first call takes the thing of the kind ahead, the only one that the second call would accept.
    days = [("turn", index) for index in word]
    return log_of((("put", kind), ("put", behind), ("call", call), *days, ("call", later)))


def day_orders(house, turns):
    """Return the ascending list of all orders by which the house has no day fork."""
    kinds = sorted(house[0])
    # Which kinds come apart does not lie in their order: of a couple that does, the first one stands behind.
    pairs = [
        (other, one) for one in kinds for other in kinds
        if is_accepted_with(house, one, other) and parts_later(house, turns, one, other) is not None
    ]
    return [order for order in permutations(kinds) if keeps(order, pairs)]
