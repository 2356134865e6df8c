"""Givers: rules that give things to calls, knowing the rows ahead."""

from calledbest.begins import sets_of
from calledbest.best import best_at
from calledbest.forms import are_in_order, is_call, is_integer
from calledbest.play import tally

MOST_MARKS = 100


def best_first(house):
    """Return the giver that always gives the best kind there."""
    keys = sorted([(0, call, there) for call in house[1] for there in sets_of(call)])
    gives = {key: (None if key[2] == () else key[2][0], 0) for key in keys}
    return 1, gives, {(0, kind): 0 for kind in sorted(house[0])}


def is_giver(house, thing):
    """Tell whether thing is a giver."""
    if not isinstance(thing, tuple) or len(thing) != 3:
        return False
    marks, gives, notes = thing
    if not is_integer(marks) or not 1 <= marks <= MOST_MARKS:
        return False
    return are_gives(house, marks, gives) and are_notes(house, marks, notes)


def is_mark(marks, thing):
    """Tell whether thing is one of so many marks."""
    return is_integer(thing) and 0 <= thing < marks


def are_gives(house, marks, thing):
    """Tell whether thing can be the gives of a giver with so many marks."""
    many = marks * sum([len(sets_of(call)) for call in house[1]])
    if not isinstance(thing, dict) or len(thing) != many:
        return False
    # So many different keys, each a right one, are all of them.
    return all([is_gives_key(house, marks, key) and is_gift(marks, key[2], gift) for key, gift in thing.items()])


def is_gives_key(house, marks, thing):
    """Tell whether thing is a mark, a call, and a SET of kinds that the call accepts."""
    if not isinstance(thing, tuple) or len(thing) != 3:
        return False
    mark, call, there = thing
    return is_mark(marks, mark) and is_call(house, call) and are_in_order(call, there)


def is_gift(marks, there, thing):
    """Tell whether thing is a kind that is there, or None, and a mark."""
    if not isinstance(thing, tuple) or len(thing) != 2:
        return False
    given, mark = thing
    return (given is None or given in there) and is_mark(marks, mark)


def are_notes(house, marks, thing):
    """Tell whether thing can be the notes of a giver with so many marks."""
    if not isinstance(thing, dict) or len(thing) != marks * len(house[0]):
        return False
    return all([is_notes_key(house, marks, key) and is_mark(marks, mark) for key, mark in thing.items()])


def is_notes_key(house, marks, thing):
    """Tell whether thing is a mark and a kind."""
    if not isinstance(thing, tuple) or len(thing) != 2:
        return False
    return is_mark(marks, thing[0]) and thing[1] in house[0]


def given_by(house, giver, log):
    """Return the dict from the indexes of the calls to the names of the things given, or None."""
    _, gives, notes = giver
    mark = 0
    here = {kind: [] for kind in house[0]}
    names = {}
    for index, row in enumerate(log):
        if row[0] == "put":
            here[row[2]].append(row[1])
            mark = notes[(mark, row[2])]
        else:
            there = tuple([kind for kind in row[1] if here[kind] != []])
            given, mark = gives[(mark, row[1], there)]
            names[index] = None if given is None else here[given].pop(0)
    return names


def served_by(house, giver, log):
    """Return the list of how many calls have been given a thing, for each moment."""
    return tally(log, [index for index, name in given_by(house, giver, log).items() if name is not None])


def first_loss(house, giver, log):
    """Return the least moment at which the giver has served fewer calls than the best, None if there is none."""
    for moment, (served, best) in enumerate(zip(served_by(house, giver, log), best_at(house, log))):
        if served < best:
            return moment
    return None


def first_refusal(house, giver):
    """Return the least key of gives at which the giver refuses, None if there is none."""
    return min([key for key, gift in giver[1].items() if key[2] != () and gift[0] is None], default=None)
