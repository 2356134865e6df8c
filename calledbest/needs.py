"""What has to be there ahead of a stretch so that all its calls are served."""

from calledbest.acts import amounts_shown, changed_at, do_deed, grid_size, grid_up_to
from calledbest.errors import TooMany

MOST_AMOUNTS = 20000


def are_all_served(house, stretch, amounts):
    """Tell whether all calls of a stretch are served if it acts on amounts."""
    left = dict(amounts)
    for deed in stretch:
        kind = do_deed(left, deed)
        if deed[0] == "call" and kind is None:
            return False
    return True


def one_less(numbers):
    """Return the list of what numbers are with one thing less of some kind."""
    return [changed_at(numbers, at, -1) for at, number in enumerate(numbers) if number > 0]


def least_last(house, stretch, ahead, most):
    """Return the least number of things of the last kind that, with these of the others, are enough.

    With most of them they are, or there are no more to be asked for.
    """
    number = most
    while number > 0 and are_all_served(house, stretch, amounts_shown(house, (*ahead, number - 1))):
        number -= 1
    return number


def least_needs(house, stretch):
    """Return the ascending list of all amounts, as tuples, that are enough, and not with one thing less."""
    calls = len([1 for deed in stretch if deed[0] == "call"])
    if grid_size(house, calls) > MOST_AMOUNTS:
        raise TooMany(MOST_AMOUNTS)
    # Of no kind more things can be taken than there are calls: if even these are not enough, the last number is one
    # more. The more things there are of the other kinds, the fewer are needed of the last one.
    lasts = {}
    for ahead in grid_up_to([calls for _ in house[0][1:]]):
        most = min([calls + 1] + [lasts[less] for less in one_less(ahead)])
        lasts[ahead] = least_last(house, stretch, ahead, most)
    return [
        (*ahead, last) for ahead, last in lasts.items()
        if last <= calls and all([lasts[less] > last for less in one_less(ahead)])
    ]


def cheapest_need(house, stretch, prices):
    """Return the least sum of prices of amounts that are enough, and the first least ones with this sum."""
    sums = [
        (sum([prices[kind] * number for kind, number in zip(house[0], numbers)]), numbers)
        for numbers in least_needs(house, stretch)
    ]
    total, numbers = min(sums)
    return total, amounts_shown(house, numbers)
