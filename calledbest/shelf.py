"""What a shelf of things goes through: a dict from their names to their kinds, in the order of their puts."""


def name_taken(things, call):
    """Return the name of the thing that a call takes of things, None if there is none."""
    for kind in call:
        for name, here in things.items():
            if here == kind:
                return name
    return None


def name_gone(things, row):
    """Return the name of the thing that a call or a drop takes away from things, None if there is none."""
    if row[0] == "call":
        return name_taken(things, row[1])
    return row[1] if row[1] in things else None


def do_row(things, row):
    """Do a row of a log on things, and return the name of the thing that it takes away, or None."""
    if row[0] == "put":
        things[row[1]] = row[2]
        return None
    name = name_gone(things, row)
    if name is not None:
        del things[name]
    return name


def amounts_on(house, things):
    """Return how many of things there are of each kind."""
    kinds = list(things.values())
    return {kind: kinds.count(kind) for kind in sorted(house[0])}
