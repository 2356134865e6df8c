"""Copies of a log, in which some rows lack."""

from itertools import combinations

from calledbest.errors import TooMany
from calledbest.play import told_in_copy
from calledbest.shelf import do_row
from calledbest.struck import struck
from calledbest.wander import names_alone

MOST_ROWS = 40


def copy_of(log, lacks):
    """Return the log without the rows that lack."""
    return struck(log, lacks)


def apart_at(house, log, one, other):
    """Return the list of what is there by one copy alone, and by the other one alone, for each moment of the log."""
    things = {}
    others = {}
    apart = [((), ())]
    for index, row in enumerate(log):
        if index not in one:
            do_row(things, row)
        if index not in other:
            do_row(others, row)
        apart.append((names_alone(things, others), names_alone(others, things)))
    return apart


def same_told(house, log, one, other):
    """Return the dict from the indexes of the calls that tell the same in both copies to what they tell."""
    mine = told_in_copy(log, one)
    its = told_in_copy(log, other)
    return {index: name for index, name in mine.items() if index in its and its[index] == name}


def sure_told(house, log, most):
    """Return the dict from the calls that tell the same, whichever few other rows lack, to what they tell."""
    if len(log) > MOST_ROWS:
        raise TooMany(MOST_ROWS)
    told = told_in_copy(log, ())
    unsure = {}
    for many in range(most + 1):
        for lacks in combinations(range(len(log)), many):
            for index, name in told_in_copy(log, lacks).items():
                if name != told[index]:
                    unsure[index] = True
    return {index: name for index, name in told.items() if index not in unsure}
