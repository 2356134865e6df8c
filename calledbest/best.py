"""What hindsight can serve of a plain log."""

from calledbest.forms import are_indexes, is_index
from calledbest.pairs import Pairs, led_to, most_at


def fits(log, put, call):
    """Tell whether a call accepts the kind of a put, both told by their indexes."""
    return log[put][2] in log[call][1]


def makes_pair(log, put, call):
    """Tell whether a put and a call, told by their indexes, are a pair of the log."""
    return put < call and fits(log, put, call)


def indexes_of(log, sort):
    """Return the list of the indexes of the rows of this sort."""
    return [index for index, row in enumerate(log) if row[0] == sort]


def puts_for(log):
    """Return the dict from each call to the list of the puts with which it is a pair, all told by their indexes."""
    puts = indexes_of(log, "put")
    return {call: [put for put in puts if makes_pair(log, put, call)] for call in indexes_of(log, "call")}


def calls_for(log):
    """Return the dict from each put to the list of the calls with which it is a pair, all told by their indexes."""
    calls = indexes_of(log, "call")
    return {put: [call for call in calls if makes_pair(log, put, call)] for put in indexes_of(log, "put")}


def served_best(log):
    """Return the Pairs of a log in which as many calls as can be are served."""
    pairs = Pairs(puts_for(log))
    for call in indexes_of(log, "call"):
        pairs.pair_up(call)
    return pairs


def spare_calls(pairs):
    """Return the list of the calls that could be the ones that are not served, as many being so."""
    return led_to(pairs.beside, pairs.mates, [call for call in pairs.beside if call not in pairs.mates])


def best_of(house, log):
    """Return the best of a log."""
    return len(giving_of(house, log))


def giving_of(house, log):
    """Return a giving with as many calls as can be."""
    return served_best(log).mates_of(indexes_of(log, "call"))


def cover_of(house, log):
    """Return a cover with as few members as can be."""
    pairs = served_best(log)
    # None of the puts of spare calls is free, so all of these are given to spare calls; with the other calls, all
    # served, they are just as many as the calls that are served.
    spare = spare_calls(pairs)
    puts = {put: True for call in spare for put in pairs.beside[call]}
    calls = {call: True for call in pairs.beside}
    for call in spare:
        del calls[call]
    return tuple(sorted(puts)), tuple(sorted(calls))


def are_mates(log, thing):
    """Tell whether thing is a dict from indexes of calls to indexes of puts that they accept, all different."""
    if not isinstance(thing, dict) or not all([is_mate(log, call, put) for call, put in thing.items()]):
        return False
    return len(set(list(thing.values()))) == len(thing)


def is_mate(log, call, put):
    """Tell whether these two values are the indexes of a call and of a put whose kind it accepts."""
    return is_index(log, "call", call) and is_index(log, "put", put) and fits(log, put, call)


def is_giving(house, log, thing):
    """Tell whether thing is a giving of the log."""
    return are_mates(log, thing) and all([put < call for call, put in thing.items()])


def is_cover(house, log, thing):
    """Tell whether thing is a cover of the log."""
    if not isinstance(thing, tuple) or len(thing) != 2:
        return False
    puts, calls = thing
    if not are_indexes(log, "put", puts) or not are_indexes(log, "call", calls):
        return False
    covering = {index: True for index in puts + calls}
    beside = puts_for(log)
    return all([put in covering for call in beside if call not in covering for put in beside[call]])


def best_at(house, log):
    """Return the list of the best of the rows done, for each moment."""
    return most_at(log, "call", puts_for(log))


def needed_rows(house, log):
    """Return the ascending list of the rows that, each left out by itself, leave a best that is one less."""
    pairs = served_best(log)
    free_puts = [put for put in indexes_of(log, "put") if put not in pairs.mates]
    spare_puts = led_to(calls_for(log), pairs.mates, free_puts)
    spare = {index: True for index in spare_calls(pairs) + spare_puts}
    return [index for index in range(len(log)) if index not in spare]
