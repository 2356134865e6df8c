"""Whether two stretches of any house are alike.

Here amounts are NUMBERS, as in acts. What a stretch makes of the amounts that can tell it from others
stands for its act: a tuple with an item for each of these amounts.
"""

from calledbest.acts import amounts_shown, grid_size, grid_up_to, piled_behind
from calledbest.begins import beginning_sets
from calledbest.errors import TooMany
from calledbest.forks import is_nested

MOST_AMOUNTS = 20000


def check_few(house, number, most):
    """Raise TooMany if the house is not nested, and has more than most amounts of up to number things of a kind."""
    if grid_size(house, number) > most and not is_nested(house):
        raise TooMany(most)


def calls_accepting(stretch, kind):
    """Return how many calls of a stretch accept a kind."""
    return len([1 for deed in stretch if deed[0] == "call" and kind in deed[1]])


def most_needed(house, stretches):
    """Return the list that has for each kind the most calls of one of the stretches that accept it."""
    return [max([calls_accepting(stretch, kind) for stretch in stretches]) for kind in house[0]]


def telling_amounts(house, most):
    """Return amounts of which any two unlike stretches make unlike ones.

    Of each kind most has at least as many things as calls of a stretch accept it: further ones would just stay.
    """
    if is_nested(house):
        # With all kinds of B, and no others, n(A) changes by the number M(A, B) of the brief: these tell all of it.
        return [
            tuple([number if kind in part else 0 for kind, number in zip(house[0], most)])
            for part in beginning_sets(house)
        ]
    return grid_up_to(most)


def act_behind(house, known, act, deed):
    """Return the act of a stretch with this act, and behind it a deed.

    What each deed makes of amounts is kept in known, as few amounts come again and again.
    """
    steps = known.setdefault(deed, {})
    for amounts in act:
        if amounts not in steps:
            steps[amounts] = piled_behind(house, deed, amounts)
    return tuple([steps[amounts] for amounts in act])


def act_of(house, known, stretch, grid):
    """Return the act of a stretch: what it makes of each of the amounts of grid."""
    act = tuple(grid)
    for deed in stretch:
        act = act_behind(house, known, act, deed)
    return act


def parting_amounts(house, one, other):
    """Return amounts of which two stretches make unlike ones, None if they are alike."""
    check_few(house, max(len(one), len(other)), MOST_AMOUNTS)
    grid = telling_amounts(house, most_needed(house, [one, other]))
    known = {}
    mine = act_of(house, known, one, grid)
    its = act_of(house, known, other, grid)
    for at, amounts in enumerate(grid):
        if mine[at] != its[at]:
            return amounts_shown(house, amounts)
    return None


def are_alike(house, one, other):
    """Tell whether two stretches are alike."""
    return parting_amounts(house, one, other) is None
