"""Orders of deeds behind which so many things are there."""

from calledbest.acts import acted
from calledbest.begins import count_in
from calledbest.errors import NoNumber
from calledbest.lost import deeds_with, lost_ends


def order_behind(puts, calls, changes):
    """Return the order to which so many changes of a put and the call behind it lead from that with all puts first.

    One call after the other goes ahead of all puts, from the last put on.
    """
    if changes == 0:
        return puts + calls
    done, passed = divmod(changes, len(puts))
    at = len(puts) - passed
    return calls[:done] + puts[:at] + calls[done:done + 1] + puts[at:] + calls[done + 1:]


def order_with(house, amounts, deeds, later, part, number):
    """Return an order of deeds by which, behind later, so many things of the kinds of part are there."""
    least, greatest = lost_ends(house, amounts, deeds, later)
    if not least[part] <= number <= greatest[part]:
        raise NoNumber(number)
    puts = deeds_with(deeds, "put")
    calls = deeds_with(deeds, "call")
    low = 0
    high = len(puts) * len(calls)
    # Each change makes it one thing more at most, and never less: the first order with enough has just so many.
    while low < high:
        middle = (low + high) // 2
        order = order_behind(puts, calls, middle)
        if count_in(acted(house, order + later, amounts), part) < number:
            low = middle + 1
        else:
            high = middle
    return order_behind(puts, calls, low)
