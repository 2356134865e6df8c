"""Two stretches, each known in its order, that were woven in any way."""

from calledbest.errors import NoNumber
from calledbest.piles import count_piled
from calledbest.strands import end_of, reached_by, weaving_back

MOST_TUPLES = 20000


def woven(one, other, weaving):
    """Return the stretch that is woven of two stretches as weaving tells."""
    strands = (one, other)
    done = [0, 0]
    deeds = []
    for at in weaving:
        deeds.append(strands[at][done[at]])
        done[at] += 1
    return tuple(deeds)


def woven_amounts(house, amounts, one, other):
    """Return the ascending list of what all weavings make of amounts."""
    strands = (one, other)
    return sorted(reached_by(house, amounts, strands, MOST_TUPLES)[end_of(strands)])


def woven_range(house, amounts, one, other, part):
    """Return the least and the greatest number of things of the kinds of part behind a weaving."""
    counts = [count_piled(house, numbers, part) for numbers in woven_amounts(house, amounts, one, other)]
    return min(counts), max(counts)


def weaving_to(house, amounts, one, other, part, number):
    """Return a weaving behind which there are so many things of the kinds of part."""
    strands = (one, other)
    reached = reached_by(house, amounts, strands, MOST_TUPLES)
    for numbers in reached[end_of(strands)]:
        if count_piled(house, numbers, part) == number:
            return weaving_back(strands, reached, numbers)
    raise NoNumber(number)
