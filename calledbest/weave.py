"""Two stretches, each known in its order, that were woven in any way.

STRANDS are a list or a tuple of stretches, each in its order, of which any may go on next. A PLACE is a tuple that has
for each strand how many of its deeds are done. What is reached is a dict from all places to dicts from the NUMBERS to
which weavings lead there: to the index of the strand whose deed comes last, and the NUMBERS ahead of this deed, or to
None where nothing is done.
"""

from calledbest.acts import changed_at, count_piled, grid_up_to, piled, piled_behind
from calledbest.errors import NoNumber, TooMany

MOST_TUPLES = 20000


def led_to_place(house, strands, reached, place):
    """Return the dict of the amounts that the places one deed ahead of a place lead to."""
    found = {}
    for at, strand in enumerate(strands):
        if place[at] > 0:
            deed = strand[place[at] - 1]
            for numbers in reached[changed_at(place, at, -1)]:
                found.setdefault(piled_behind(house, deed, numbers), (at, numbers))
    return found


def reached_by(house, amounts, strands, most):
    """Return what is reached; raise TooMany if these are more than most amounts at places. most may be None."""
    reached = {}
    many = 0
    for place in grid_up_to([len(strand) for strand in strands]):
        # Places one deed ahead are less, so they came earlier.
        reached[place] = led_to_place(house, strands, reached, place) if many > 0 else {piled(house, amounts): None}
        many += len(reached[place])
        if most is not None and many > most:
            raise TooMany(most)
    return reached


def end_of(strands):
    """Return the place at which all deeds are done."""
    return tuple([len(strand) for strand in strands])


def weaving_back(strands, reached, numbers):
    """Return the tuple of the indexes of the strands, deed by deed, of a weaving that ends with these numbers."""
    place = end_of(strands)
    way = reached[place][numbers]
    weaving = []
    while way is not None:
        at, ahead = way
        weaving.append(at)
        place = changed_at(place, at, -1)
        way = reached[place][ahead]
    return tuple(reversed(weaving))


def woven(one, other, weaving):
    """Return the stretch that is woven of two stretches as weaving tells."""
    strands = (one, other)
    done = [0, 0]
    deeds = []
    for at in weaving:
        deeds.append(strands[at][done[at]])
        done[at] += 1
    return tuple(deeds)


def woven_amounts(house, amounts, one, other):
    """Return the ascending list of what all weavings make of amounts."""
    strands = (one, other)
    return sorted(reached_by(house, amounts, strands, MOST_TUPLES)[end_of(strands)])


def woven_range(house, amounts, one, other, part):
    """Return the least and the greatest number of things of the kinds of part behind a weaving."""
    counts = [count_piled(house, numbers, part) for numbers in woven_amounts(house, amounts, one, other)]
    return min(counts), max(counts)


def weaving_to(house, amounts, one, other, part, number):
    """Return a weaving behind which there are so many things of the kinds of part."""
    strands = (one, other)
    reached = reached_by(house, amounts, strands, MOST_TUPLES)
    for numbers in reached[end_of(strands)]:
        if count_piled(house, numbers, part) == number:
            return weaving_back(strands, reached, numbers)
    raise NoNumber(number)
