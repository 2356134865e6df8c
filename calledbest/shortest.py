"""Shortest stretches with a brief.

Here the brief of a stretch is a tuple of its integers, one for each PAIR (A, B) of beginning sets, B within A.
"""

from calledbest.acts import deeds_of
from calledbest.begins import beginning_sets, is_within
from calledbest.briefs import brief_of
from calledbest.errors import TooMany
from calledbest.forks import check_nested

MOST_ACTS = 1000


def pairs_of(house):
    """Return the list of all PAIRS of beginning sets."""
    sets = beginning_sets(house)
    return [(whole, part) for whole in sets for part in sets if is_within(part, whole)]


def meets(call, part):
    """Tell whether a call accepts some kind of part."""
    return any([kind in part for kind in call])


def place_without(places, whole, part, call):
    """Return the place of the PAIR of the greatest set within whole that a call does not meet, and of part."""
    return places[max([pair for pair in places if pair[1] == part and is_within(pair[0], whole)
                       and not meets(call, pair[0])], key=lambda pair: len(pair[0]))]


def steps_of(pairs, deed):
    """Return the list that has for each PAIR what a deed at the end adds to its integer, and a place or None.

    The integer of this place, where there is one, is the new one if it is greater: things of sets within A that the
    call does not meet stay. Of all sets between A and B it is the greatest such one whose integer is the greatest.
    """
    if deed[0] == "put":
        return [(1 if deed[1] in whole else 0, None) for whole, part in pairs]
    places = {pair: at for at, pair in enumerate(pairs)}
    steps = []
    for whole, part in pairs:
        if meets(deed[1], part):
            steps.append((-1, None))
        elif meets(deed[1], whole):
            steps.append((-1, place_without(places, whole, part, deed[1])))
        else:
            steps.append((0, None))
    return steps


def numbers_behind(steps, numbers):
    """Return the brief of a stretch with this brief, and behind it a deed with these steps."""
    return tuple([
        number + more if at is None else max(number + more, numbers[at])
        for number, (more, at) in zip(numbers, steps)
    ])


def lengthened(steps, ways, level, sought):
    """Keep in ways a stretch for each new brief that one deed more makes of those of level, and return these briefs.

    Where the brief sought comes about, the others need not be found; nor need they if there are too many.
    """
    found = []
    for numbers in level:
        for deed in steps:
            behind = numbers_behind(steps[deed], numbers)
            if behind not in ways and (behind == sought or len(ways) <= MOST_ACTS):
                ways[behind] = (*ways[numbers], deed)
                found.append(behind)
            if behind == sought:
                return found
    return found


def shortest_with(house, brief, most):
    """Return a shortest stretch of at most so many deeds that has this brief, None if there is none."""
    check_nested(house)
    pairs = pairs_of(house)
    steps = {deed: steps_of(pairs, deed) for deed in deeds_of(house)}
    sought = tuple([brief[whole][part] for whole, part in pairs])
    level = [tuple([0 for _ in pairs])]
    ways = {level[0]: ()}
    for _ in range(most):
        if sought in ways:
            break
        level = lengthened(steps, ways, level, sought)
        if sought not in ways and len(ways) > MOST_ACTS:
            raise TooMany(MOST_ACTS)
    return ways.get(sought)


def shortest_alike(house, stretch):
    """Return a shortest stretch that is alike to a stretch."""
    # Alike stretches have the same brief, and the stretch itself is one of its length.
    return shortest_with(house, brief_of(house, stretch), len(stretch))
