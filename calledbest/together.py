"""Which calls of a plain log can be served together."""

from calledbest.best import Pairs, led_to, puts_for
from calledbest.forms import are_indexes


def giving_for(house, log, calls):
    """Return a giving whose keys are just these calls, None if there is none."""
    pairs = Pairs(puts_for(log))
    for call in calls:
        if not pairs.pair_up(call):
            return None
    return pairs.mates_of(calls)


def lack_for(house, log, calls):
    """Return a lack with members of calls alone, None if all of them can be served together."""
    pairs = Pairs(puts_for(log))
    for call in calls:
        if not pairs.pair_up(call):
            # All puts that stand in a pair with one of these calls are given to another one of them.
            return tuple(sorted(led_to(pairs.beside, pairs.mates, [call])))
    return None


def is_lack(house, log, thing):
    """Tell whether thing is a lack of the log."""
    if thing == () or not are_indexes(log, "call", thing):
        return False
    beside = puts_for(log)
    return len({put for call in thing for put in beside[call]}) < len(thing)


def dearest(house, log, worths):
    """Return the greatest sum of worths of the calls of a giving, and such a giving."""
    pairs = Pairs(puts_for(log))
    total = 0
    for call in sorted(worths, key=lambda index: (-worths[index], index)):
        if pairs.pair_up(call):
            total = total + worths[call]
    return total, pairs.mates_of(sorted(worths))
