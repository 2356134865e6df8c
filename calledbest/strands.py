"""Weavings of strands: stretches, each in its order, of which any may go on next.

A PLACE is a tuple that has for each strand how many of its deeds are done. What is reached is a dict from all places
to dicts from the amounts, as tuples, to which weavings lead there: to the index of the strand whose deed comes last,
and the amounts ahead of this deed, or to None where nothing is done.
"""

from calledbest.errors import TooMany
from calledbest.piles import changed_at, grid_up_to, piled, piled_behind


def led_to_place(house, strands, reached, place):
    """Return the dict of the amounts that the places one deed ahead of a place lead to."""
    found = {}
    for at, strand in enumerate(strands):
        if place[at] > 0:
            deed = strand[place[at] - 1]
            for numbers in reached[changed_at(place, at, -1)]:
                found.setdefault(piled_behind(house, deed, numbers), (at, numbers))
    return found


def reached_by(house, amounts, strands, most):
    """Return what is reached; raise TooMany if these are more than most amounts at places. most may be None."""
    reached = {}
    many = 0
    for place in grid_up_to([len(strand) for strand in strands]):
        # Places one deed ahead are less, so they came earlier.
        reached[place] = led_to_place(house, strands, reached, place) if many > 0 else {piled(house, amounts): None}
        many += len(reached[place])
        if most is not None and many > most:
            raise TooMany(most)
    return reached


def end_of(strands):
    """Return the place at which all deeds are done."""
    return tuple([len(strand) for strand in strands])


def weaving_back(strands, reached, numbers):
    """Return the tuple of the indexes of the strands, deed by deed, of a weaving that ends with these numbers."""
    place = end_of(strands)
    way = reached[place][numbers]
    weaving = []
    while way is not None:
        at, ahead = way
        weaving.append(at)
        place = changed_at(place, at, -1)
        way = reached[place][ahead]
    return tuple(reversed(weaving))
