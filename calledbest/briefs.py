"""Briefs: stretches of a nested house as so many integers.

Inside, a brief is a TABLE: the beginning sets are told by their indexes, and the table is a list that has for each
set A the dict from the sets B within A to the integers M(A, B).
"""

from calledbest.begins import amounts_of, beginning_sets, counts_of, is_within
from calledbest.forks import check_nested
from calledbest.forms import has_just_keys, is_integer


def sets_between(sets):
    """Return the list that has for each set A the dict from each C within A to the list of all B between them."""
    within = [{at: True for at, part in enumerate(sets) if is_within(part, whole)} for whole in sets]
    return [{last: [at for at in row if last in within[at]] for last in row} for row in within]


def deed_number(deed, one, other):
    """Return the integer of two beginning sets, the second within the first, in the brief of a deed."""
    if deed[0] == "put":
        return 1 if deed[1] in one else 0
    # The brief of the smaller set alone is asked: what it has of the call the greater one has, too.
    return -1 if any([kind in other for kind in deed[1]]) else 0


def deed_table(sets, between, deed):
    """Return the table of a deed."""
    return [{at: deed_number(deed, sets[whole], sets[at]) for at in row} for whole, row in enumerate(between)]


def joined_table(between, one, other):
    """Return the table of a stretch with the table one, and behind it another one with the table other."""
    return [
        {last: max([later[at] + one[at][last] for at in steps]) for last, steps in row.items()}
        for row, later in zip(between, other)
    ]


def table_of(sets, brief):
    """Return the table of a brief."""
    return [{at: brief[whole][part] for at, part in enumerate(sets) if is_within(part, whole)} for whole in sets]


def brief_shown(sets, table):
    """Return the brief that a table stands for."""
    return {sets[whole]: {sets[at]: number for at, number in row.items()} for whole, row in enumerate(table)}


def brief_of(house, stretch):
    """Return the brief of a stretch."""
    check_nested(house)
    sets = beginning_sets(house)
    between = sets_between(sets)
    tables = {deed: deed_table(sets, between, deed) for deed in sorted(set(stretch))}
    table = [{at: 0 for at in row} for row in between]
    for deed in stretch:
        table = joined_table(between, table, tables[deed])
    return brief_shown(sets, table)


def joined(house, one, other):
    """Return the brief of a stretch with the brief one, and behind it another one with the brief other."""
    check_nested(house)
    sets = beginning_sets(house)
    table = joined_table(sets_between(sets), table_of(sets, one), table_of(sets, other))
    return brief_shown(sets, table)


def acted_by(house, brief, amounts):
    """Return the amounts behind a stretch with this brief."""
    check_nested(house)
    counts = counts_of(house, amounts)
    return amounts_of(house, {
        whole: max([counts[part] + number for part, number in brief[whole].items()]) for whole in counts
    })


def is_brief(house, thing):
    """Tell whether thing is a brief of the house."""
    check_nested(house)
    sets = beginning_sets(house)
    if not has_just_keys(thing, sets):
        return False
    return all([is_brief_row([part for part in sets if is_within(part, whole)], thing[whole]) for whole in sets])


def is_brief_row(sets, thing):
    """Tell whether thing can be what a brief has for the set that has all these sets within."""
    if not has_just_keys(thing, sets) or not all([is_integer(thing[part]) for part in sets]):
        return False
    return all([thing[part] >= thing[whole] for whole in sets for part in sets if is_within(part, whole)])
