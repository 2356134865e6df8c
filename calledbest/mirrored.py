"""Calls that wait for things which go at once.

That is a store the other way about: in the mirrored house calls are the things, and puts ask for them.
"""

from calledbest.acts import log_of
from calledbest.best import fits, indexes_of, most_at
from calledbest.errors import TooMany
from calledbest.forms import MOST_KINDS


def check_few_calls(house):
    """Raise TooMany if the calls are more than the kinds of a house can be."""
    if len(house[1]) > MOST_KINDS:
        raise TooMany(MOST_KINDS)


def names_accepting(preference, kind):
    """Return the tuple of the names of the calls that accept a kind."""
    return tuple([name for call, name in preference if kind in call])


def mirrored(house, preference):
    """Return the mirrored house."""
    check_few_calls(house)
    names = tuple([name for call, name in preference])
    return names, tuple(sorted({names_accepting(preference, kind) for kind in house[0]}))


def mirrored_log(house, preference, log):
    """Return the log of the mirrored house that does the same."""
    check_few_calls(house)
    names = {call: name for call, name in preference}
    return log_of([
        ("put", names[row[1]]) if row[0] == "call" else ("call", names_accepting(preference, row[2])) for row in log
    ])


def played_waiting(house, preference, log):
    """Return the dict from the indexes of the puts to those of the calls that they serve, or None."""
    places = {call: at for at, (call, name) in enumerate(preference)}
    waiting = []
    served = {}
    for index, row in enumerate(log):
        if row[0] == "call":
            waiting.append(index)
            continue
        fitting = [call for call in waiting if fits(log, index, call)]
        served[index] = min(fitting, key=lambda call: (places[log[call][1]], call), default=None)
        waiting = [call for call in waiting if call != served[index]]
    return served


def calls_waiting(log):
    """Return the dict from each put to the list of the earlier calls that it fits, all told by their indexes."""
    calls = indexes_of(log, "call")
    return {put: [call for call in calls if call < put and fits(log, put, call)] for put in indexes_of(log, "put")}


def best_waiting_at(house, log):
    """Return the list of how many puts can serve at most, for each moment."""
    return most_at(log, "put", calls_waiting(log))


def best_waiting(house, log):
    """Return how many puts can serve at most, each another earlier call."""
    return best_waiting_at(house, log)[-1]


def kinds_telling(house, call, without):
    """Return the list of the kinds that a call accepts and the call without does not."""
    return [kind for kind in house[0] if kind in call and kind not in without]


def waiting_crossing(house):
    """Return the least tuple of two calls, a kind that both accept, and one that each accepts alone, or None."""
    return min([
        (one, other, kind, mine, its)
        for one in house[1] for other in house[1] if one < other
        for kind in one if kind in other
        for mine in kinds_telling(house, one, other)
        for its in kinds_telling(house, other, one)
    ], default=None)


def best_preference(house):
    """Return the list of the calls by which played_waiting is best, None if there is none."""
    if waiting_crossing(house) is not None:
        return None
    # No call may be ahead of one that accepts some of its kinds alone, just as with kinds that are accepted less.
    return sorted(house[1], key=lambda call: (len(call), call))
