"""Deeds that a stretch can do without."""

from calledbest.alike import MOST_AMOUNTS, act_of, are_alike, check_few, most_needed, telling_amounts
from calledbest.begins import is_within, sets_of
from calledbest.errors import TooMany

MOST_DEEDS = 12


def struck(stretch, indexes):
    """Return the stretch without the deeds with these indexes."""
    return tuple([deed for index, deed in enumerate(stretch) if index not in indexes])


def can_be_struck(house, stretch, indexes):
    """Tell whether the stretch without these deeds is alike to it."""
    return are_alike(house, stretch, struck(stretch, indexes))


def is_balanced(stretch, lot):
    """Tell whether the puts of each kind in a lot are as many as the calls of which it is the best kind."""
    deeds = [stretch[index] for index in lot]
    puts = [deed[1] for deed in deeds if deed[0] == "put"]
    best = [deed[1][0] for deed in deeds if deed[0] == "call"]
    return sorted(puts) == sorted(best)


def balanced_lots(stretch):
    """Return the list of the lots that are balanced, greater ones ahead."""
    # With very many things of each kind every call takes its best kind: no other lot can be struck.
    lots = [lot for lot in sets_of(list(range(len(stretch)))) if is_balanced(stretch, lot)]
    return sorted(lots, key=lambda lot: (-len(lot), lot))


def greatest_strikes(house, stretch):
    """Return the ascending list of the lots that can be struck, and that lie in no other such lot."""
    if len(stretch) > MOST_DEEDS:
        raise TooMany(MOST_DEEDS)
    check_few(house, len(stretch), MOST_AMOUNTS)
    known = {}
    grid = telling_amounts(house, most_needed(house, [stretch]))
    act = act_of(house, known, stretch, grid)
    found = []
    for lot in balanced_lots(stretch):
        inside = any([is_within(lot, greater) for greater in found])
        if not inside and act_of(house, known, struck(stretch, lot), grid) == act:
            found.append(lot)
    return sorted(found)


def cancels(put, call):
    """Tell whether the first deed is a put, and the second one a call whose best kind is the kind of this put."""
    return put[0] == "put" and call[0] == "call" and call[1][0] == put[1]


def settled(house, stretch):
    """Return what is left if puts directly ahead of calls whose best kind they are go with these, as long as can be."""
    # No deed stands in two such couples, so it comes to the same in which order they go.
    left = []
    for deed in stretch:
        if left != [] and cancels(left[-1], deed):
            left.pop()
        else:
            left.append(deed)
    return tuple(left)
