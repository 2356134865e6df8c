"""What stretches make of amounts, and stretches as plain logs.

NUMBERS are amounts as a tuple of integers in the order of the kinds.
"""

LETTERS = "abcdefghijklmnopqrstuvwxyz"


def kind_taken(amounts, call):
    """Return the best kind that a call accepts and of which there is a thing, None if there is none."""
    for kind in call:
        if amounts[kind] > 0:
            return kind
    return None


def do_deed(amounts, deed):
    """Do a deed on amounts, and return the kind of the thing that it takes, or None."""
    if deed[0] == "put":
        amounts[deed[1]] = amounts[deed[1]] + 1
        return None
    kind = kind_taken(amounts, deed[1])
    if kind is not None:
        amounts[kind] = amounts[kind] - 1
    return kind


def deeds_of(house):
    """Return the list of all deeds of a house."""
    return [("put", kind) for kind in house[0]] + [("call", call) for call in house[1]]


def acted(house, stretch, amounts):
    """Return the amounts behind a stretch."""
    left = {kind: amounts[kind] for kind in sorted(house[0])}
    for deed in stretch:
        do_deed(left, deed)
    return left


def kinds_taken(house, stretch, amounts):
    """Return the list that has for each deed the kind of the thing that it takes, or None."""
    left = dict(amounts)
    return [do_deed(left, deed) for deed in stretch]


def stretch_of(log):
    """Return the stretch of the rows of a plain log, without the names."""
    return tuple([("put", row[2]) if row[0] == "put" else row for row in log])


def name_at(number):
    """Return the name with this number, from 0 on, of a to z, aa, ab to zz, aaa and so on."""
    name = ""
    rest = number + 1
    while rest > 0:
        # One less at each letter: no letter stands for nothing, as the digit 0 does.
        name = LETTERS[(rest - 1) % 26] + name
        rest = (rest - 1) // 26
    return name


def log_of(stretch):
    """Return the plain log of a stretch, its puts named in the order of name_at."""
    rows = []
    puts = 0
    for deed in stretch:
        if deed[0] == "put":
            rows.append(("put", name_at(puts), deed[1]))
            puts += 1
        else:
            rows.append(deed)
    return tuple(rows)


def no_amounts(house):
    """Return the amounts of an empty store."""
    return {kind: 0 for kind in sorted(house[0])}


def plus_amounts(one, other):
    """Return the sum of two amounts of one house."""
    return {kind: one[kind] + other[kind] for kind in sorted(one)}


def piled(house, amounts):
    """Return the NUMBERS of amounts."""
    return tuple([amounts[kind] for kind in house[0]])


def amounts_shown(house, numbers):
    """Return the amounts that NUMBERS stand for."""
    return {kind: numbers[house[0].index(kind)] for kind in sorted(house[0])}


def count_piled(house, numbers, part):
    """Return the number of things of the kinds in part."""
    return sum([number for kind, number in zip(house[0], numbers) if kind in part])


def changed_at(numbers, at, more):
    """Return numbers with so much more at this index."""
    return (*numbers[:at], numbers[at] + more, *numbers[at + 1:])


def kind_on(house, call, numbers):
    """Return the kind that a call takes, None if it takes none."""
    for kind in call:
        if numbers[house[0].index(kind)] > 0:
            return kind
    return None


def piled_behind(house, deed, numbers):
    """Return what a deed makes of numbers."""
    if deed[0] == "put":
        return changed_at(numbers, house[0].index(deed[1]), 1)
    kind = kind_on(house, deed[1], numbers)
    return numbers if kind is None else changed_at(numbers, house[0].index(kind), -1)


def grid_up_to(most):
    """Return the ascending list of all tuples of integers from 0 to those of most."""
    grid = [()]
    for number in most:
        grid = [(*numbers, here) for numbers in grid for here in range(number + 1)]
    return grid


def grid_size(house, number):
    """Return how many amounts there are with at most so many things of each kind."""
    size = 1
    for _ in house[0]:
        size = size * (number + 1)
    return size
