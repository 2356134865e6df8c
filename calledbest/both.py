"""Calls and things that both wait for each other."""

from calledbest.acts import log_of
from calledbest.best import Pairs, are_mates, fits, indexes_of
from calledbest.play import tally


def rows_fitting(log, index):
    """Return the list of the indexes of the earlier rows that a row fits."""
    if log[index][0] == "put":
        return [call for call in indexes_of(log[:index], "call") if fits(log, index, call)]
    return [put for put in indexes_of(log[:index], "put") if fits(log, put, index)]


def mate_taken(log, waiting, index):
    """Return the index of the row, of those that wait, with which a row that comes is paired, None if there is none."""
    fitting = [other for other in rows_fitting(log, index) if other in waiting]
    row = log[index]
    if row[0] == "call":
        return min(fitting, key=lambda put: (row[1].index(log[put][2]), put), default=None)
    return min(fitting, default=None)


def played_both(house, log):
    """Return the pairing that comes about if each row is paired at once if it can be."""
    waiting = {}
    pairing = {}
    for index, row in enumerate(log):
        mate = mate_taken(log, waiting, index)
        if mate is None:
            waiting[index] = True
        else:
            del waiting[mate]
            call, put = (index, mate) if row[0] == "call" else (mate, index)
            pairing[call] = put
    return {call: pairing[call] for call in sorted(pairing)}


def both_at(house, log):
    """Return the list of how many pairs there are, for each moment."""
    # A pair is there from its later row on.
    return tally(log, [max(call, put) for call, put in played_both(house, log).items()])


def rows_paired(log):
    """Return the Pairs of all rows of a log, and the list of the indexes of the rows that brought one more."""
    pairs = Pairs({})
    bringing = []
    for index in range(len(log)):
        if pairs.come(index, rows_fitting(log, index)):
            bringing.append(index)
    return pairs, bringing


def best_both_at(house, log):
    """Return the list of the greatest number of pairs of the rows done, for each moment."""
    _, bringing = rows_paired(log)
    return tally(log, bringing)


def pairing_of(house, log):
    """Return a pairing with as many pairs as can be."""
    pairs, _ = rows_paired(log)
    return pairs.mates_of(indexes_of(log, "call"))


def best_both(house, log):
    """Return the greatest number of pairs that a pairing has."""
    return len(pairing_of(house, log))


def is_pairing(house, log, thing):
    """Tell whether thing is a pairing of the log."""
    return are_mates(log, thing)


def loses_both(house):
    """Return a log of four rows in which the first pair costs one, None if no two calls accept a kind in common."""
    for one in house[1]:
        for other in house[1]:
            common = [kind for kind in one if kind in other]
            alone = [kind for kind in one if kind not in other]
            if common != [] and alone != []:
                return log_of((("put", common[0]), ("call", one), ("put", alone[0]), ("call", other)))
    return None
