"""Choices: other rules than best first for what calls take."""

from calledbest.acts import log_of, name_at
from calledbest.begins import sets_of
from calledbest.forms import has_just_keys, in_order
from calledbest.shelf import do_row, name_taken


def keys_of(house):
    """Return the ascending list of the keys of a choice."""
    return sorted([(call, part) for call in house[1] for part in sets_of(call)])


def is_choice(house, thing):
    """Tell whether thing is a choice."""
    keys = keys_of(house)
    if not has_just_keys(thing, keys):
        return False
    return all([thing[key] is None or thing[key] in key[1] for key in keys])


def best_choice(house):
    """Return the choice by which calls take the best kind."""
    return {(call, part): None if part == () else part[0] for call, part in keys_of(house)}


def do_chosen(things, choice, row):
    """Do a row of a log on things, calls going by the choice."""
    if row[0] != "call":
        do_row(things, row)
        return
    kind = choice[(row[1], in_order(row[1], list(things.values())))]
    if kind is not None:
        del things[name_taken(things, (kind,))]


def there_by(house, choice, log):
    """Return the list of the names of what is there behind a log, calls going by the choice."""
    things = {}
    for row in log:
        do_chosen(things, choice, row)
    return list(things)


def is_steady(choice, call, part, kind):
    """Tell whether with this kind more the choice is this kind, or what it is without it."""
    grown = in_order(call, (*part, kind))
    return choice[(call, grown)] in (kind, choice[(call, part)])


def unsteady(house, choice):
    """Return the least call, part and kind more of which the choice makes something else, None if there is none."""
    return min([
        (call, part, kind)
        for call, part in keys_of(house) for kind in call
        if kind not in part and not is_steady(choice, call, part, kind)
    ], default=None)


def parting_log(house, choice):
    """Return a log and a mend behind which more than one thing differs, None if there are none."""
    found = unsteady(house, choice)
    if found is None:
        return None
    call, part, kind = found
    # The further thing stays, and the call takes another one of the others than it took, or one and none.
    log = log_of((*[("put", other) for other in part], ("call", call)))
    return log, ("more", 0, ("put", name_at(len(part)), kind))
