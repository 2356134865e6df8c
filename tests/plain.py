"""Plain second ways of finding answers: slow, and straight from the definitions of the document."""

import itertools


def played(log):
    """Return the list of (told, there) behind each row of a log: what it tells, and the things, a list."""
    there = []
    behind = []
    for row in log:
        told = None
        if row[0] == "put":
            there = there + [(row[1], row[2])]
        elif row[0] == "drop":
            there = [thing for thing in there if thing[0] != row[1]]
        else:
            taken = [thing for kind in row[1] for thing in there if thing[1] == kind]
            if taken:
                told = taken[0][0]
                there = [thing for thing in there if thing != taken[0]]
        behind.append((told, there))
    return behind


def best(log):
    """Return the best of a plain log: as many calls are served as chains of other puts for them allow."""
    given = {}

    def serve(call, tried):
        for put, row in enumerate(log[:call]):
            if row[0] == "put" and row[2] in log[call][1] and put not in tried:
                tried.add(put)
                if put not in given or serve(given[put], tried):
                    given[put] = call
                    return True
        return False

    return len([call for call, row in enumerate(log) if row[0] == "call" and serve(call, set())])


def acted(house, stretch, amounts):
    """Return the amounts behind a stretch."""
    left = dict(amounts)
    for sort, what in stretch:
        if sort == "put":
            left[what] += 1
        else:
            here = [kind for kind in house[0] if kind in what and left[kind] > 0]
            if here:
                left[here[0]] -= 1
    return left


def amounts_up_to(house, most):
    """Return all amounts with at most so many things of each kind."""
    return [dict(zip(house[0], numbers)) for numbers in itertools.product(range(most + 1), repeat=len(house[0]))]


def alike(house, one, other):
    """Tell by [7] whether two stretches make the same of all amounts."""
    most = max(len(one), len(other))
    return all(acted(house, one, amounts) == acted(house, other, amounts) for amounts in amounts_up_to(house, most))


def forks(house):
    """Return the ascending list of all forks, each combination tried."""
    kinds, calls = house
    return sorted(
        (one, other, kind, behind)
        for one, other, kind, behind in itertools.product(calls, calls, kinds, kinds)
        if kind in one and kind in other
        and kinds.index(behind) > kinds.index(kind) and behind in one and behind not in other
    )


def tails_agree(house):
    """Tell whether any two calls that accept a kind have the same tail of it."""
    kinds, calls = house
    return all(
        len({tuple(behind for behind in call if kinds.index(behind) > kinds.index(kind)) for call in calls if kind in call}) <= 1
        for kind in kinds
    )


def crossings(house):
    """Return the ascending list of all crossings, each combination tried."""
    kinds, calls = house
    return sorted(
        (both, one, other, kind, behind)
        for both, one, other, kind, behind in itertools.product(calls, calls, calls, kinds, kinds)
        if kinds.index(kind) < kinds.index(behind) and kind in both and behind in both
        and kind in one and behind not in one and behind in other and kind not in other
    )


def turned(house, order):
    """Return the house with this order of its kinds."""
    return order, tuple(sorted(tuple(kind for kind in order if kind in call) for call in house[1]))


def nested_orders(house):
    """Return the ascending list of the orders by which the house has no fork, all orders tried."""
    return [order for order in itertools.permutations(sorted(house[0])) if tails_agree(turned(house, order))]


def exchanged_to(house, stretch):
    """Return the ascending list of the stretches to which exchanges of neighbours lead that are alike."""
    seen = {stretch}
    waiting = [stretch]
    while waiting:
        deeds = waiting.pop()
        for at in range(len(deeds) - 1):
            one, other = deeds[at:at + 2]
            changed = deeds[:at] + (other, one) + deeds[at + 2:]
            if changed not in seen and alike(house, (one, other), (other, one)):
                seen.add(changed)
                waiting.append(changed)
    return sorted(seen)


def sets(house):
    """Return the list of all SETS of a house."""
    kinds = house[0]
    return [part for size in range(len(kinds) + 1) for part in itertools.combinations(kinds, size)]


def beginning_sets(house):
    """Return the ascending list of all beginning sets."""
    return sorted(
        part for part in sets(house)
        if all(call.index(one) < call.index(other)
               for call in house[1] for one in call for other in call if one in part and other not in part)
    )


def count(amounts, part):
    """Return the number of things of the kinds of part."""
    return sum(number for kind, number in amounts.items() if kind in part)


def brief(house, stretch):
    """Return the least numbers of [25]: of n(A) behind the stretch less n(B) ahead of it, over all small amounts."""
    begins = beginning_sets(house)
    pairs = [(amounts, acted(house, stretch, amounts)) for amounts in amounts_up_to(house, len(stretch))]
    return {
        whole: {
            part: min(count(behind, whole) - count(ahead, part) for ahead, behind in pairs)
            for part in begins if set(part) <= set(whole)
        }
        for whole in begins
    }


def joined(house, one, other):
    """Return the greatest sums of [25], each set between tried."""
    begins = beginning_sets(house)
    return {
        whole: {
            last: max(other[whole][part] + one[part][last] for part in begins if set(last) <= set(part) <= set(whole))
            for last in begins if set(last) <= set(whole)
        }
        for whole in begins
    }


def all_stretches(house, length):
    """Return the list of all stretches of this length."""
    deeds = [("put", kind) for kind in house[0]] + [("call", call) for call in house[1]]
    return list(itertools.product(deeds, repeat=length))


def act(house, stretch, most):
    """Return what a stretch makes of all amounts with at most so many things of each kind."""
    return tuple(tuple(acted(house, stretch, amounts).items()) for amounts in amounts_up_to(house, most))


def without(rows, indexes):
    """Return the tuple of the rows, or deeds, but for those with these indexes."""
    return tuple(row for index, row in enumerate(rows) if index not in indexes)


def indexes_of(log, sort):
    """Return the list of the indexes of the rows of this sort."""
    return [index for index, row in enumerate(log) if row[0] == sort]


def pairs(log):
    """Return the list of the tuples (put, call) of all pairs of a plain log."""
    return [
        (put, call)
        for put in indexes_of(log, "put") for call in indexes_of(log, "call")
        if put < call and log[put][2] in log[call][1]
    ]


def givings(log):
    """Return the list of all givings of a plain log, each call tried with each put."""
    found = [{}]
    for call in indexes_of(log, "call"):
        puts = [put for put, later in pairs(log) if later == call]
        found = found + [{**giving, call: put} for giving in found for put in puts if put not in giving.values()]
    return found


def best_moments(log):
    """Return the list of the best of the rows done, for each moment."""
    return [best(log[:moment]) for moment in range(len(log) + 1)]


def given(house, giver, log):
    """Return the list of (key, name) for each row of a plain log: the key of gives that a call uses, what it is given."""
    mark, there, told = 0, [], []
    for row in log:
        if row[0] == "put":
            there = there + [row[1:]]
            mark = giver[2][(mark, row[2])]
            told.append((None, None))
            continue
        kinds = tuple(kind for kind in row[1] if kind in [thing[1] for thing in there])
        key = (mark, row[1], kinds)
        kind, mark = giver[1][key]
        names = [thing[0] for thing in there if thing[1] == kind]
        told.append((key, names[0] if names else None))
        there = [thing for thing in there if thing[0] not in names[:1]]
    return told


def lots_that_can_be_struck(house, stretch):
    """Return the list of all lots without which the stretch is alike, each lot tried."""
    lots = [
        lot for size in range(len(stretch) + 1) for lot in itertools.combinations(range(len(stretch)), size)
    ]
    behind = act(house, stretch, len(stretch))
    return [lot for lot in lots if act(house, without(stretch, lot), len(stretch)) == behind]


def settled(stretch):
    """Return what is left of a stretch if couples of a put and a call go one by one, the first one first."""
    for at in range(len(stretch) - 1):
        one, other = stretch[at:at + 2]
        if one[0] == "put" and other[0] == "call" and other[1][0] == one[1]:
            return settled(stretch[:at] + stretch[at + 2:])
    return stretch
