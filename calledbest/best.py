"""What hindsight can serve of a plain log."""

from calledbest.forms import are_indexes, is_index
from calledbest.play import tally


class Pairs:
    """Pairs that grow row by row: a row that is in one stays so, perhaps with another mate.

    beside has for the rows that come the list of the rows with which each of them can be in a pair.
    """

    def __init__(self, beside):
        self.beside = dict(beside)
        self.mates = {}

    def pair_up(self, row):
        """Let a row come, and return whether there is a pair more."""
        came = {}
        free = self._free_row(row, came)
        if free is None:
            return False
        # The free row goes to the one from which it was come to, the mate of this one to the one before, and so on.
        while free is not None:
            taker = came[free]
            passed = self.mates.get(taker)
            self.mates[taker] = free
            self.mates[free] = taker
            free = passed
        return True

    def come(self, row, others):
        """Let a row come that lies beside others, which came ahead of it, and return whether there is a pair more."""
        self.beside[row] = list(others)
        for other in others:
            self.beside[other].append(row)
        return self.pair_up(row)

    def _free_row(self, row, came):
        """Return a row that is free, keeping in came from which row each one was come to, None if there is none."""
        waiting = [row]
        while waiting != []:
            at = waiting.pop()
            for other in self.beside[at]:
                if other not in came:
                    came[other] = at
                    if other not in self.mates:
                        return other
                    waiting.append(self.mates[other])
        return None

    def mates_of(self, rows):
        """Return the dict from those of rows that are in a pair to their mates."""
        return {row: self.mates[row] for row in rows if row in self.mates}


def led_to(beside, mates, starts):
    """Return the list of all that exchanges lead to from starts: on to one beside, and from there to its mate."""
    found = list(starts)
    seen = {start: True for start in starts}
    waiting = list(starts)
    while waiting != []:
        at = waiting.pop()
        for other in beside[at]:
            mate = mates.get(other)
            if mate is not None and mate not in seen:
                seen[mate] = True
                found.append(mate)
                waiting.append(mate)
    return found


def most_at(log, sort, beside):
    """Return the list of the most pairs of the rows done, for each moment, if rows of this sort come with beside."""
    pairs = Pairs(beside)
    bringing = []
    for index, row in enumerate(log):
        # A row of the other sort lies beside rows behind it alone: what could be in no pair stays so.
        if row[0] == sort and pairs.pair_up(index):
            bringing.append(index)
    return tally(log, bringing)


def fits(log, put, call):
    """Tell whether a call accepts the kind of a put, both told by their indexes."""
    return log[put][2] in log[call][1]


def makes_pair(log, put, call):
    """Tell whether a put and a call, told by their indexes, are a pair of the log."""
    return put < call and fits(log, put, call)


def indexes_of(log, sort):
    """Return the list of the indexes of the rows of this sort."""
    return [index for index, row in enumerate(log) if row[0] == sort]


def puts_for(log):
    """Return the dict from each call to the list of the puts with which it is a pair, all told by their indexes."""
    puts = indexes_of(log, "put")
    return {call: [put for put in puts if makes_pair(log, put, call)] for call in indexes_of(log, "call")}


def calls_for(log):
    """Return the dict from each put to the list of the calls with which it is a pair, all told by their indexes."""
    calls = indexes_of(log, "call")
    return {put: [call for call in calls if makes_pair(log, put, call)] for put in indexes_of(log, "put")}


def served_best(log):
    """Return the Pairs of a log in which as many calls as can be are served."""
    pairs = Pairs(puts_for(log))
    for call in indexes_of(log, "call"):
        pairs.pair_up(call)
    return pairs


def spare_calls(pairs):
    """Return the list of the calls that could be the ones that are not served, as many being so."""
    return led_to(pairs.beside, pairs.mates, [call for call in pairs.beside if call not in pairs.mates])


def best_of(house, log):
    """Return the best of a log."""
    return len(giving_of(house, log))


def giving_of(house, log):
    """Return a giving with as many calls as can be."""
    return served_best(log).mates_of(indexes_of(log, "call"))


def cover_of(house, log):
    """Return a cover with as few members as can be."""
    pairs = served_best(log)
    # None of the puts of spare calls is free, so all of these are given to spare calls; with the other calls, all
    # served, they are just as many as the calls that are served.
    spare = spare_calls(pairs)
    puts = {put: True for call in spare for put in pairs.beside[call]}
    calls = {call: True for call in pairs.beside}
    for call in spare:
        del calls[call]
    return tuple(sorted(puts)), tuple(sorted(calls))


def are_mates(log, thing):
    """Tell whether thing is a dict from indexes of calls to indexes of puts that they accept, all different."""
    if not isinstance(thing, dict) or not all([is_mate(log, call, put) for call, put in thing.items()]):
        return False
    return len(set(list(thing.values()))) == len(thing)


def is_mate(log, call, put):
    """Tell whether these two values are the indexes of a call and of a put whose kind it accepts."""
    return is_index(log, "call", call) and is_index(log, "put", put) and fits(log, put, call)


def is_giving(house, log, thing):
    """Tell whether thing is a giving of the log."""
    return are_mates(log, thing) and all([put < call for call, put in thing.items()])


def is_cover(house, log, thing):
    """Tell whether thing is a cover of the log."""
    if not isinstance(thing, tuple) or len(thing) != 2:
        return False
    puts, calls = thing
    if not are_indexes(log, "put", puts) or not are_indexes(log, "call", calls):
        return False
    covering = {index: True for index in puts + calls}
    beside = puts_for(log)
    return all([put in covering for call in beside if call not in covering for put in beside[call]])


def best_at(house, log):
    """Return the list of the best of the rows done, for each moment."""
    return most_at(log, "call", puts_for(log))


def needed_rows(house, log):
    """Return the ascending list of the rows that, each left out by itself, leave a best that is one less."""
    pairs = served_best(log)
    free_puts = [put for put in indexes_of(log, "put") if put not in pairs.mates]
    spare_puts = led_to(calls_for(log), pairs.mates, free_puts)
    spare = {index: True for index in spare_calls(pairs) + spare_puts}
    return [index for index in range(len(log)) if index not in spare]
