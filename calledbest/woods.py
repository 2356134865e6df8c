"""Wanderers: what goes on to differ if one thing were not there, or one thing were there, too.

A PLACE tells where a thing stands in the order of the puts: (index, 1) for the put with this index; (index, 0) comes
ahead of it. A STEP is a tuple of a row, the name of the thing that it takes away, and the name of the thing that it
would take away without the first one; these are None where there is none.
"""

from calledbest.play import things_at
from calledbest.shelf import do_row, name_gone


def puts_of(log):
    """Return the dict from the names of all puts to their PLACES and kinds."""
    return {row[1]: ((index, 1), row[2]) for index, row in enumerate(log) if row[0] == "put"}


def step_of(things, row):
    """Return the STEP of a row that is done on things."""
    if row[0] == "put":
        return row, None, None
    gone = name_gone(things, row)
    rest = {name: things[name] for name in things if name != gone}
    return row, gone, name_gone(rest, row)


def steps_of(log):
    """Return the list of the STEPS of a log."""
    things = {}
    steps = []
    for row in log:
        steps.append(step_of(things, row))
        do_row(things, row)
    return steps


def is_ahead(puts, call, name, gone):
    """Tell whether a call takes one thing rather than another one, or none, that it takes otherwise."""
    place, kind = puts[name]
    if kind not in call or gone is None:
        return kind in call
    other_place, other_kind = puts[gone]
    return (call.index(kind), place) < (call.index(other_kind), other_place)


def next_name(puts, step, sort, name):
    """Return the name by which a wanderer differs behind a STEP, None if by none."""
    row, gone, second = step
    if name is None or row[0] == "put":
        return name
    if sort == "less":
        return second if name == gone else name
    if row[0] == "drop":
        return None if name == row[1] else name
    return gone if is_ahead(puts, row[1], name, gone) else name


def path_of(house, log, moment, sort, name):
    """Return the list of the names by which a wanderer differs, or None, from a moment to the last one."""
    puts = puts_of(log)
    path = [name]
    for step in steps_of(log)[moment:]:
        path.append(next_name(puts, step, sort, path[-1]))
    return path


def wanderers_at(log, moment):
    """Return the list of the sorts and names of all wanderers at a moment."""
    things = things_at(log, moment)
    names = [row[1] for row in log[:moment] if row[0] == "put"]
    return [("less" if name in things else "more", name) for name in names]


def ends_of(house, log):
    """Return the dict from the moments, sorts and names of all wanderers to the last items of their paths."""
    puts = puts_of(log)
    steps = steps_of(log)
    ends = {(len(log), sort, name): name for sort, name in wanderers_at(log, len(log))}
    for moment in reversed(range(len(log))):
        for sort, name in wanderers_at(log, moment):
            later = next_name(puts, steps[moment], sort, name)
            # Who meets another wanderer goes on as this one; who differs by none any more has no later end.
            ends[(moment, sort, name)] = None if later is None else ends[(moment + 1, sort, later)]
    return {key: ends[key] for key in sorted(ends)}
