"""What hindsight can serve of a plain log."""

from calledbest.forms import are_indexes, is_index


def makes_pair(log, put, call):
    """Tell whether a put and a call, told by their indexes, are a pair of the log."""
    return put < call and log[put][2] in log[call][1]


def indexes_of(log, sort):
    """Return the list of the indexes of the rows of this sort."""
    return [index for index, row in enumerate(log) if row[0] == sort]


def puts_for(log):
    """Return the dict from each call to the list of the puts with which it is a pair, all told by their indexes."""
    puts = indexes_of(log, "put")
    return {call: [put for put in puts if makes_pair(log, put, call)] for call in indexes_of(log, "call")}


def calls_for(log):
    """Return the dict from each put to the list of the calls with which it is a pair, all told by their indexes."""
    calls = indexes_of(log, "call")
    return {put: [call for call in calls if makes_pair(log, put, call)] for put in indexes_of(log, "put")}


class Hindsight:
    """A giving of a log that grows call by call: a call that is served stays so, perhaps by another put."""

    def __init__(self, log):
        self.puts = puts_for(log)
        self.given = {}
        self.takers = {}

    def serve(self, call):
        """Serve one call more, and return whether that can be."""
        came = {}
        put = self._free_put(call, came)
        if put is None:
            return False
        # The free put goes to the call from which it was come to, the put of this one to the call before, and so on.
        while put is not None:
            taker = came[put]
            passed = self.given.get(taker)
            self.given[taker] = put
            self.takers[put] = taker
            put = passed
        return True

    def _free_put(self, call, came):
        """Return a put that is free, keeping in came from which call each put was come to, None if there is none."""
        waiting = [call]
        while waiting != []:
            at = waiting.pop()
            for put in self.puts[at]:
                if put not in came:
                    came[put] = at
                    if put not in self.takers:
                        return put
                    waiting.append(self.takers[put])
        return None

    def giving(self):
        """Return the giving."""
        return {call: self.given[call] for call in sorted(self.given)}

    def left_calls(self):
        """Return the list of the calls that are not served."""
        return [call for call in self.puts if call not in self.given]


def led_to(beside, mates, starts):
    """Return the list of all that exchanges lead to from starts: on to one beside, and from there to its mate."""
    found = list(starts)
    seen = {start: True for start in starts}
    waiting = list(starts)
    while waiting != []:
        at = waiting.pop()
        for other in beside[at]:
            mate = mates.get(other)
            if mate is not None and mate not in seen:
                seen[mate] = True
                found.append(mate)
                waiting.append(mate)
    return found


def served_best(log):
    """Return the Hindsight of a log that serves as many calls as can be."""
    hindsight = Hindsight(log)
    for call in indexes_of(log, "call"):
        hindsight.serve(call)
    return hindsight


def best_of(house, log):
    """Return the best of a log."""
    return len(giving_of(house, log))


def giving_of(house, log):
    """Return a giving with as many calls as can be."""
    return served_best(log).giving()


def cover_of(house, log):
    """Return a cover with as few members as can be."""
    hindsight = served_best(log)
    # The spare calls could as well be the ones that are not served. None of their puts is free, so all of these are
    # given to spare calls; with the other calls, all served, they are just as many as the calls that are served.
    spare = led_to(hindsight.puts, hindsight.takers, hindsight.left_calls())
    puts = {put: True for call in spare for put in hindsight.puts[call]}
    calls = {call: True for call in hindsight.puts}
    for call in spare:
        del calls[call]
    return tuple(sorted(puts)), tuple(sorted(calls))


def is_giving(house, log, thing):
    """Tell whether thing is a giving of the log."""
    if not isinstance(thing, dict) or not all([is_given(log, call, put) for call, put in thing.items()]):
        return False
    return len(set(list(thing.values()))) == len(thing)


def is_given(log, call, put):
    """Tell whether these two values are the indexes of a call and of a put with which it is a pair."""
    return is_index(log, "call", call) and is_index(log, "put", put) and makes_pair(log, put, call)


def is_cover(house, log, thing):
    """Tell whether thing is a cover of the log."""
    if not isinstance(thing, tuple) or len(thing) != 2:
        return False
    puts, calls = thing
    if not are_indexes(log, "put", puts) or not are_indexes(log, "call", calls):
        return False
    covering = {index: True for index in puts + calls}
    beside = puts_for(log)
    return all([put in covering for call in beside if call not in covering for put in beside[call]])


def best_at(house, log):
    """Return the list of the best of the rows done, for each moment."""
    hindsight = Hindsight(log)
    numbers = [0]
    for index, row in enumerate(log):
        # A call behind has no way but its own to a put more: what could not be served stays so.
        served = row[0] == "call" and hindsight.serve(index)
        numbers.append(numbers[index] + (1 if served else 0))
    return numbers


def needed_rows(house, log):
    """Return the ascending list of the rows that, each left out by itself, leave a best that is one less."""
    hindsight = served_best(log)
    left_puts = [put for put in indexes_of(log, "put") if put not in hindsight.takers]
    spare_calls = led_to(hindsight.puts, hindsight.takers, hindsight.left_calls())
    spare_puts = led_to(calls_for(log), hindsight.given, left_puts)
    spare = {index: True for index in spare_calls + spare_puts}
    return [index for index in range(len(log)) if index not in spare]
