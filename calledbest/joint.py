"""What all orders of deeds make of amounts."""

from calledbest.errors import NoNumber, TooMany
from calledbest.forms import is_integer
from calledbest.weave import end_of, reached_by, weaving_back

MOST_DEEDS = 12


def strands_of(deeds):
    """Return the list of strands, each of equal deeds, of which the weavings are all orders of deeds."""
    if len(deeds) > MOST_DEEDS:
        raise TooMany(MOST_DEEDS)
    return [(deed,) * deeds.count(deed) for deed in sorted(set(deeds))]


def joint_amounts(house, amounts, deeds):
    """Return the ascending list of what all orders of deeds make of amounts."""
    strands = strands_of(deeds)
    return sorted(reached_by(house, amounts, strands, None)[end_of(strands)])


def are_numbers(thing):
    """Tell whether thing is a tuple of integers."""
    return isinstance(thing, tuple) and all([is_integer(number) for number in thing])


def order_to(house, amounts, deeds, numbers):
    """Return an order of deeds that makes these numbers of amounts."""
    strands = strands_of(deeds)
    reached = reached_by(house, amounts, strands, None)
    # Only integers are looked for: True would be found where 1 stands, and other values may have no hash.
    if not are_numbers(numbers) or numbers not in reached[end_of(strands)]:
        raise NoNumber(numbers)
    return tuple([strands[at][0] for at in weaving_back(strands, reached, numbers)])
