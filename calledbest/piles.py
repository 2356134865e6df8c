"""Amounts as tuples: how many things there are of each kind, in the order of the kinds."""


def piled(house, amounts):
    """Return the tuple of amounts."""
    return tuple([amounts[kind] for kind in house[0]])


def amounts_shown(house, numbers):
    """Return the amounts of a tuple."""
    return {kind: numbers[house[0].index(kind)] for kind in sorted(house[0])}


def count_piled(house, numbers, part):
    """Return the number of things of the kinds in part."""
    return sum([number for kind, number in zip(house[0], numbers) if kind in part])


def changed_at(numbers, at, more):
    """Return numbers with so much more at this index."""
    return (*numbers[:at], numbers[at] + more, *numbers[at + 1:])


def kind_on(house, call, numbers):
    """Return the kind that a call takes, None if it takes none."""
    for kind in call:
        if numbers[house[0].index(kind)] > 0:
            return kind
    return None


def piled_behind(house, deed, numbers):
    """Return what a deed makes of numbers."""
    if deed[0] == "put":
        return changed_at(numbers, house[0].index(deed[1]), 1)
    kind = kind_on(house, deed[1], numbers)
    return numbers if kind is None else changed_at(numbers, house[0].index(kind), -1)


def grid_up_to(most):
    """Return the ascending list of all tuples of integers from 0 to those of most."""
    grid = [()]
    for number in most:
        grid = [(*numbers, here) for numbers in grid for here in range(number + 1)]
    return grid


def grid_size(house, number):
    """Return how many amounts there are with at most so many things of each kind."""
    size = 1
    for _ in house[0]:
        size = size * (number + 1)
    return size
