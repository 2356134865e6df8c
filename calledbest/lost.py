"""What is still sure of a stretch whose order is lost."""

from calledbest.acts import acted
from calledbest.begins import counts_of
from calledbest.forks import check_nested


def deeds_with(deeds, sort):
    """Return the tuple of the deeds of this sort."""
    return tuple([deed for deed in deeds if deed[0] == sort])


def lost_ends(house, amounts, deeds, later):
    """Return the least and the greatest numbers of things in all beginning sets, over all orders of deeds."""
    check_nested(house)
    puts = deeds_with(deeds, "put")
    calls = deeds_with(deeds, "call")
    least = acted(house, puts + calls + later, amounts)
    greatest = acted(house, calls + puts + later, amounts)
    return counts_of(house, least), counts_of(house, greatest)
