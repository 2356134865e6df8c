"""What one row, or a few, would have changed for a call."""

from itertools import combinations

from calledbest.errors import NoIndex, TooMany
from calledbest.forms import is_index
from calledbest.play import things_at
from calledbest.shelf import name_taken
from calledbest.woods import next_name, puts_of, steps_of

MOST_ROWS = 30
MOST_STRIKES = 3

# No NAME is empty: a thing that is called so stands in no row.
NEW = ""


def is_served(puts, steps, moment, name, index):
    """Tell whether the call with this index takes a thing if one thing more, called name, is there at a moment."""
    for step in steps[moment:index]:
        name = next_name(puts, step, "more", name)
    return name is not None and puts[name][1] in steps[index][0][1]


def mends_that_serve(house, log, index):
    """Return the ascending list of the rows that, left out or come in, let a call that tells nothing be served."""
    if not is_index(log, "call", index):
        raise NoIndex(index)
    puts = puts_of(log)
    steps = steps_of(log)
    if steps[index][1] is not None:
        raise NoIndex(index)
    # Without a row that takes a thing away this one is there; without a put there is only less.
    less = [("less", at) for at in range(index) if is_served(puts, steps, at + 1, steps[at][1], index)]
    more = [
        ("more", at, kind)
        for at in range(index + 1) for kind in sorted(house[0])
        if is_served({**puts, NEW: ((at, 0), kind)}, steps, at, NEW, index)
    ]
    return less + more


def told_without(log, rows, index):
    """Return the name that the call with this index tells without some rows ahead of it."""
    kept = [row for at, row in enumerate(log[:index]) if at not in rows]
    return name_taken(things_at(kept, len(kept)), log[index][1])


def least_strikes(house, log, index, name):
    """Return the first of the fewest rows without which a call tells a name, None if there are none."""
    if not is_index(log, "call", index):
        raise NoIndex(index)
    if index > MOST_ROWS:
        raise TooMany(MOST_ROWS)
    for many in range(MOST_STRIKES + 1):
        for rows in combinations(range(index), many):
            if told_without(log, rows, index) == name:
                return rows
    return None
