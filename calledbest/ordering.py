"""Orders of deeds behind which so many things are there."""

from calledbest.acts import acted
from calledbest.begins import count_in
from calledbest.errors import NoNumber
from calledbest.forks import check_nested
from calledbest.lost import deeds_with


def order_with(house, amounts, deeds, later, part, number):
    """Return an order of deeds by which, behind later, so many things of the kinds of part are there."""
    check_nested(house)
    puts = deeds_with(deeds, "put")
    calls = deeds_with(deeds, "call")
    # One call after the other goes ahead of all puts. Wherever a call stands, it takes one thing away in the end, or
    # none: each of these orders differs by one thing at most from the next, so that they leave out no number.
    for ahead in range(len(calls) + 1):
        order = calls[:ahead] + puts + calls[ahead:]
        if count_in(acted(house, order + later, amounts), part) == number:
            return order
    raise NoNumber(number)
