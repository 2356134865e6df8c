"""What one row, or a few, would have changed for a call.

PILES tell what is there: a tuple that has for each kind, in order, the string of the marks of its things, in the order
of their puts. A thing has a letter of its own for a mark only as long as a drop or a question may name it: what lies
otherwise alike goes on alike, so that few PILES stand for all that can be there without some rows.
"""

from calledbest.acts import LETTERS
from calledbest.errors import NoIndex, TooMany
from calledbest.forms import is_index
from calledbest.woods import next_name, puts_of, steps_of

MOST_ROWS = 30
MOST_STRIKES = 3

# No NAME is empty: a thing that is called so stands in no row.
NEW = ""

ANY_MARK = "."


def is_served(puts, steps, moment, name, index):
    """Tell whether the call with this index takes a thing if one thing more, called name, is there at a moment."""
    for step in steps[moment:index]:
        name = next_name(puts, step, "more", name)
    return name is not None and puts[name][1] in steps[index][0][1]


def mends_that_serve(house, log, index):
    """Return the ascending list of the rows that, left out or come in, let a call that tells nothing be served."""
    if not is_index(log, "call", index):
        raise NoIndex(index)
    puts = puts_of(log)
    steps = steps_of(log)
    if steps[index][1] is not None:
        raise NoIndex(index)
    # Without a row that takes a thing away this one is there; without a put there is only less.
    less = [("less", at) for at in range(index) if is_served(puts, steps, at + 1, steps[at][1], index)]
    more = [
        ("more", at, kind)
        for at in range(index + 1) for kind in sorted(house[0])
        if is_served({**puts, NEW: ((at, 0), kind)}, steps, at, NEW, index)
    ]
    return less + more


def marks_of(log, name):
    """Return the dict from the names that are put, and dropped or asked for, to letters, all different."""
    named = {row[1]: True for row in log if row[0] == "drop"}
    puts = [row[1] for row in log if row[0] == "put" and (row[1] == name or row[1] in named)]
    return {put: LETTERS[at] for at, put in enumerate(puts)}


def place_taken(house, piles, call):
    """Return the index of the pile of which a call takes a thing, None if there is none."""
    for kind in call:
        place = house[0].index(kind)
        if piles[place] != "":
            return place
    return None


def remarked(piles, mark, other):
    """Return the PILES with another mark, or none, for the thing with this one."""
    return tuple([pile.replace(mark, other) for pile in piles])


def piles_with(house, marks, piles, row):
    """Return the PILES behind a row."""
    if row[0] == "drop":
        return remarked(piles, marks[row[1]], "") if row[1] in marks else piles
    if row[0] == "put":
        place = house[0].index(row[2])
        pile = piles[place] + marks.get(row[1], ANY_MARK)
    else:
        place = place_taken(house, piles, row[1])
        if place is None:
            return piles
        pile = piles[place][1:]
    return (*piles[:place], pile, *piles[place + 1:])


def piles_without(marks, piles, row, later, name):
    """Return the PILES behind a row that lacks, some rows being later.

    A thing that no later drop names, and that is not asked for, needs no letter any more.
    """
    if row[0] != "drop" or row[1] not in marks or row[1] == name or row in later:
        return piles
    return remarked(piles, marks[row[1]], ANY_MARK)


def keep_least(ways, piles, rows):
    """Keep in ways the fewest rows that lead to PILES, of equally many the least."""
    if piles not in ways or (len(rows), rows) < (len(ways[piles]), ways[piles]):
        ways[piles] = rows


def ways_without(house, log, marks, name, most):
    """Return the dict from the PILES behind a log without at most so many rows to the least such rows."""
    ways = {tuple(["" for _ in house[0]]): ()}
    for at, row in enumerate(log):
        later = log[at + 1:]
        found = {}
        for piles, rows in ways.items():
            keep_least(found, piles_with(house, marks, piles, row), rows)
            if len(rows) < most:
                keep_least(found, piles_without(marks, piles, row, later, name), (*rows, at))
        ways = found
    return ways


def least_strikes(house, log, index, name):
    """Return the first of the fewest rows without which a call tells a name, None if there are none."""
    if not is_index(log, "call", index):
        raise NoIndex(index)
    if index > MOST_ROWS:
        raise TooMany(MOST_ROWS)
    ahead = log[:index]
    marks = marks_of(ahead, name)
    if name not in marks:
        return None
    for most in range(MOST_STRIKES + 1):
        ways = ways_without(house, ahead, marks, name, most)
        telling = [rows for piles, rows in ways.items() if mark_told(house, piles, log[index][1]) == marks[name]]
        if telling != []:
            return min(telling)
    return None


def mark_told(house, piles, call):
    """Return the mark of the thing that a call takes, None if it takes none."""
    place = place_taken(house, piles, call)
    return None if place is None else piles[place][0]
