"""What stretches make of amounts, and stretches as plain logs."""

LETTERS = "abcdefghijklmnopqrstuvwxyz"


def kind_taken(amounts, call):
    """Return the best kind that a call accepts and of which there is a thing, None if there is none."""
    for kind in call:
        if amounts[kind] > 0:
            return kind
    return None


def do_deed(amounts, deed):
    """Do a deed on amounts, and return the kind of the thing that it takes, or None."""
    if deed[0] == "put":
        amounts[deed[1]] = amounts[deed[1]] + 1
        return None
    kind = kind_taken(amounts, deed[1])
    if kind is not None:
        amounts[kind] = amounts[kind] - 1
    return kind


def deeds_of(house):
    """Return the list of all deeds of a house."""
    return [("put", kind) for kind in house[0]] + [("call", call) for call in house[1]]


def acted(house, stretch, amounts):
    """Return the amounts behind a stretch."""
    left = {kind: amounts[kind] for kind in sorted(house[0])}
    for deed in stretch:
        do_deed(left, deed)
    return left


def kinds_taken(house, stretch, amounts):
    """Return the list that has for each deed the kind of the thing that it takes, or None."""
    left = dict(amounts)
    return [do_deed(left, deed) for deed in stretch]


def stretch_of(log):
    """Return the stretch of the rows of a plain log, without the names."""
    return tuple([("put", row[2]) if row[0] == "put" else row for row in log])


def name_at(number):
    """Return the name with this number, from 0 on, of a to z, aa, ab to zz, aaa and so on."""
    name = ""
    rest = number + 1
    while rest > 0:
        # One less at each letter: no letter stands for nothing, as the digit 0 does.
        name = LETTERS[(rest - 1) % 26] + name
        rest = (rest - 1) // 26
    return name


def log_of(stretch):
    """Return the plain log of a stretch, its puts named in the order of name_at."""
    rows = []
    puts = 0
    for deed in stretch:
        if deed[0] == "put":
            rows.append(("put", name_at(puts), deed[1]))
            puts += 1
        else:
            rows.append(deed)
    return tuple(rows)


def no_amounts(house):
    """Return the amounts of an empty store."""
    return {kind: 0 for kind in sorted(house[0])}


def plus_amounts(one, other):
    """Return the sum of two amounts of one house."""
    return {kind: one[kind] + other[kind] for kind in sorted(one)}
