"""Briefs: stretches of a nested house as so many integers.

Where briefs are joined, a brief is a TABLE: the beginning sets are told by their indexes, and the table is a list that
has for each set A the dict from the sets B within A to the integers M(A, B).
"""

from calledbest.acts import do_deed
from calledbest.begins import amounts_of, beginning_masks, beginning_sets, counts_of, is_within
from calledbest.forks import check_nested
from calledbest.forms import has_just_keys, is_integer


def sets_between(sets):
    """Return the list that has for each set A the dict from each C within A to the list of all B between them."""
    within = [{at: True for at, part in enumerate(sets) if is_within(part, whole)} for whole in sets]
    return [{last: [at for at in row if last in within[at]] for last in row} for row in within]


def joined_table(between, one, other):
    """Return the table of a stretch with the table one, and behind it another one with the table other."""
    return [
        {last: max([later[at] + one[at][last] for at in steps]) for last, steps in row.items()}
        for row, later in zip(between, other)
    ]


def table_of(sets, brief):
    """Return the table of a brief."""
    return [{at: brief[whole][part] for at, part in enumerate(sets) if is_within(part, whole)} for whole in sets]


def brief_shown(sets, table):
    """Return the brief that a table stands for."""
    return {sets[whole]: {sets[at]: number for at, number in row.items()} for whole, row in enumerate(table)}


def brief_of(house, stretch):
    """Return the brief of a stretch."""
    check_nested(house)
    many = len(stretch)
    masks = beginning_masks(house)
    # With as many things of each kind of B as calls could take, and no others, n(B) is so great that n(B) + M(A, B) is
    # the greatest sum for each A that B is within: what n(A) is behind the stretch tells M(A, B).
    columns = []
    for kinds, bits in masks.items():
        left = {kind: many if kind in kinds else 0 for kind in house[0]}
        for deed in stretch:
            do_deed(left, deed)
        columns.append((kinds, bits, left, many * len(kinds)))
    return {
        whole: {
            part: sum([amounts[kind] for kind in whole]) - ahead
            for part, mask, amounts, ahead in columns if mask & inside == mask
        }
        for whole, inside in masks.items()
    }


def joined(house, one, other):
    """Return the brief of a stretch with the brief one, and behind it another one with the brief other."""
    check_nested(house)
    sets = beginning_sets(house)
    table = joined_table(sets_between(sets), table_of(sets, one), table_of(sets, other))
    return brief_shown(sets, table)


def acted_by(house, brief, amounts):
    """Return the amounts behind a stretch with this brief."""
    check_nested(house)
    counts = counts_of(house, amounts)
    return amounts_of(house, {
        whole: max([counts[part] + number for part, number in brief[whole].items()]) for whole in counts
    })


def is_brief(house, thing):
    """Tell whether thing is a brief of the house."""
    check_nested(house)
    sets = beginning_sets(house)
    if not has_just_keys(thing, sets):
        return False
    return all([is_brief_row([part for part in sets if is_within(part, whole)], thing[whole]) for whole in sets])


def is_brief_row(sets, thing):
    """Tell whether thing can be what a brief has for the set that has all these sets within."""
    if not has_just_keys(thing, sets) or not all([is_integer(thing[part]) for part in sets]):
        return False
    return all([thing[part] >= thing[whole] for whole in sets for part in sets if is_within(part, whole)])
