"""Turns: days on which all things turn into other kinds, or perish."""

from calledbest.acts import do_deed
from calledbest.best import most_at
from calledbest.forms import has_just_keys
from calledbest.shelf import do_row


def is_turn(house, thing):
    """Tell whether thing is a turn."""
    if not has_just_keys(thing, house[0]):
        return False
    return all([kind is None or kind in house[0] for kind in thing.values()])


def amounts_turned(turn, amounts):
    """Return the amounts behind a turn."""
    return {
        kind: sum([number for other, number in amounts.items() if turn[other] == kind]) for kind in sorted(amounts)
    }


def acted_days(house, turns, stretch, amounts):
    """Return the amounts behind a day stretch."""
    left = {kind: amounts[kind] for kind in sorted(house[0])}
    for deed in stretch:
        if deed[0] == "turn":
            left = amounts_turned(turns[deed[1]], left)
        else:
            do_deed(left, deed)
    return left


def kind_by(turns, kind, word):
    """Return what a kind becomes by a word, None if it perishes."""
    for index in word:
        if kind is not None:
            kind = turns[index][kind]
    return kind


def things_turned(turn, things):
    """Return the things that are there behind a turn."""
    return {name: turn[kind] for name, kind in things.items() if turn[kind] is not None}


def told_days(house, turns, log):
    """Return the dict from the indexes of the calls of a day log to the names that they tell, or None."""
    things = {}
    told = {}
    for index, row in enumerate(log):
        if row[0] == "turn":
            things = things_turned(turns[row[1]], things)
        else:
            name = do_row(things, row)
            if row[0] == "call":
                told[index] = name
    return told


def puts_by_days(turns, log):
    """Return the dict from each call to the list of the puts that it can have been given, all told by their indexes."""
    kinds = {}
    puts = {}
    for index, row in enumerate(log):
        if row[0] == "turn":
            kinds = things_turned(turns[row[1]], kinds)
        elif row[0] == "put":
            kinds[index] = row[2]
        else:
            puts[index] = [put for put, kind in kinds.items() if kind in row[1]]
    return puts


def best_days(house, turns, log):
    """Return the best of a day log."""
    return most_at(log, "call", puts_by_days(turns, log))[-1]
