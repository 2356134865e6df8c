"""Mends of a log: rows that come in, or are left out, and what they change."""

from calledbest.shelf import do_row


def rows_ahead(mends, index):
    """Return the list of the rows that come in ahead of the row with this index."""
    return [mend[2] for mend in mends if mend[0] == "more" and mend[1] == index]


def rows_kept(log, mends, index):
    """Return the list of the row with this index, [] if it is left out, or there is none."""
    if index == len(log) or ("less", index) in mends:
        return []
    return [log[index]]


def log_with(log, mends):
    """Return the log with all of these mends."""
    rows = []
    for index in range(len(log) + 1):
        rows = rows + rows_ahead(mends, index) + rows_kept(log, mends, index)
    return tuple(rows)


def mended(log, mend):
    """Return the log with a mend."""
    return log_with(log, [mend])


def names_alone(things, others):
    """Return the ascending tuple of the names that are among things, and not among others."""
    return tuple(sorted([name for name in things if name not in others]))


def apart_by(log, mends):
    """Return the list of the names that are there with the mends alone, and without them alone, for each moment."""
    things = {}
    others = {}
    apart = []
    for index in range(len(log) + 1):
        for row in rows_ahead(mends, index):
            do_row(things, row)
        apart.append((names_alone(things, others), names_alone(others, things)))
        for row in rows_kept(log, mends, index):
            do_row(things, row)
        for row in rows_kept(log, [], index):
            do_row(others, row)
    return apart


def wanderer(more, less):
    """Return what tells of the names by which two logs differ, of which there is one or none."""
    if more != ():
        return "more", more[0]
    return None if less == () else ("less", less[0])


def wander(house, log, mend):
    """Return the list of what is there with the mend alone, or without it alone, for each moment."""
    return [wanderer(more, less) for more, less in apart_by(log, [mend])]
