"""Plain second ways of finding answers: slow, and straight from the definitions of the document."""

import itertools


def played(log):
    """Return the list of (told, there) behind each row of a log: what it tells, and the things, a list."""
    there = []
    behind = []
    for row in log:
        told = None
        if row[0] == "put":
            there = there + [(row[1], row[2])]
        elif row[0] == "drop":
            there = [thing for thing in there if thing[0] != row[1]]
        else:
            taken = [thing for kind in row[1] for thing in there if thing[1] == kind]
            if taken:
                told = taken[0][0]
                there = [thing for thing in there if thing != taken[0]]
        behind.append((told, there))
    return behind


def most_mates(beside):
    """Return how many keys can have a mate each of those in their lists, chains of other mates making room."""
    mates = {}

    def pair(one, tried):
        for other in beside[one]:
            if other not in tried:
                tried.add(other)
                if other not in mates or pair(mates[other], tried):
                    mates[other] = one
                    return True
        return False

    return len([one for one in beside if pair(one, set())])


def best(log):
    """Return the best of a plain log."""
    return most_mates({
        call: [put for put, row in enumerate(log[:call]) if row[0] == "put" and row[2] in log[call][1]]
        for call in indexes_of(log, "call")
    })


def acted(house, stretch, amounts):
    """Return the amounts behind a stretch."""
    left = dict(amounts)
    for sort, what in stretch:
        if sort == "put":
            left[what] += 1
        else:
            here = [kind for kind in house[0] if kind in what and left[kind] > 0]
            if here:
                left[here[0]] -= 1
    return left


def amounts_up_to(house, most):
    """Return all amounts with at most so many things of each kind."""
    return [dict(zip(house[0], numbers)) for numbers in itertools.product(range(most + 1), repeat=len(house[0]))]


def alike(house, one, other):
    """Tell by [7] whether two stretches make the same of all amounts."""
    most = max(len(one), len(other))
    return all(acted(house, one, amounts) == acted(house, other, amounts) for amounts in amounts_up_to(house, most))


def forks(house):
    """Return the ascending list of all forks, each combination tried."""
    kinds, calls = house
    return sorted(
        (one, other, kind, behind)
        for one, other, kind, behind in itertools.product(calls, calls, kinds, kinds)
        if kind in one and kind in other
        and kinds.index(behind) > kinds.index(kind) and behind in one and behind not in other
    )


def tails_agree(house):
    """Tell whether any two calls that accept a kind have the same tail of it."""
    kinds, calls = house
    return all(
        len({tuple(behind for behind in call if kinds.index(behind) > kinds.index(kind)) for call in calls if kind in call}) <= 1
        for kind in kinds
    )


def crossings(house):
    """Return the ascending list of all crossings, each combination tried."""
    kinds, calls = house
    return sorted(
        (both, one, other, kind, behind)
        for both, one, other, kind, behind in itertools.product(calls, calls, calls, kinds, kinds)
        if kinds.index(kind) < kinds.index(behind) and kind in both and behind in both
        and kind in one and behind not in one and behind in other and kind not in other
    )


def turned(house, order):
    """Return the house with this order of its kinds."""
    return order, tuple(sorted(tuple(kind for kind in order if kind in call) for call in house[1]))


def nested_orders(house):
    """Return the ascending list of the orders by which the house has no fork, all orders tried."""
    return [order for order in itertools.permutations(sorted(house[0])) if tails_agree(turned(house, order))]


def exchanged_to(house, stretch):
    """Return the ascending list of the stretches to which exchanges of neighbours lead that are alike."""
    seen = {stretch}
    waiting = [stretch]
    while waiting:
        deeds = waiting.pop()
        for at in range(len(deeds) - 1):
            one, other = deeds[at:at + 2]
            changed = deeds[:at] + (other, one) + deeds[at + 2:]
            if changed not in seen and alike(house, (one, other), (other, one)):
                seen.add(changed)
                waiting.append(changed)
    return sorted(seen)


def sets(house):
    """Return the list of all SETS of a house."""
    kinds = house[0]
    return [part for size in range(len(kinds) + 1) for part in itertools.combinations(kinds, size)]


def beginning_sets(house):
    """Return the ascending list of all beginning sets."""
    return sorted(
        part for part in sets(house)
        if all(call.index(one) < call.index(other)
               for call in house[1] for one in call for other in call if one in part and other not in part)
    )


def count(amounts, part):
    """Return the number of things of the kinds of part."""
    return sum(number for kind, number in amounts.items() if kind in part)


def brief(house, stretch):
    """Return the least numbers of [25]: of n(A) behind the stretch less n(B) ahead of it, over all small amounts."""
    begins = beginning_sets(house)
    pairs = [(amounts, acted(house, stretch, amounts)) for amounts in amounts_up_to(house, len(stretch))]
    return {
        whole: {
            part: min(count(behind, whole) - count(ahead, part) for ahead, behind in pairs)
            for part in begins if set(part) <= set(whole)
        }
        for whole in begins
    }


def joined(house, one, other):
    """Return the greatest sums of [25], each set between tried."""
    begins = beginning_sets(house)
    return {
        whole: {
            last: max(other[whole][part] + one[part][last] for part in begins if set(last) <= set(part) <= set(whole))
            for last in begins if set(last) <= set(whole)
        }
        for whole in begins
    }


def all_stretches(house, length):
    """Return the list of all stretches of this length."""
    deeds = [("put", kind) for kind in house[0]] + [("call", call) for call in house[1]]
    return list(itertools.product(deeds, repeat=length))


def act(house, stretch, most):
    """Return what a stretch makes of all amounts with at most so many things of each kind."""
    return tuple(tuple(acted(house, stretch, amounts).items()) for amounts in amounts_up_to(house, most))


def without(rows, indexes):
    """Return the tuple of the rows, or deeds, but for those with these indexes."""
    return tuple(row for index, row in enumerate(rows) if index not in indexes)


def indexes_of(log, sort):
    """Return the list of the indexes of the rows of this sort."""
    return [index for index, row in enumerate(log) if row[0] == sort]


def pairs(log):
    """Return the list of the tuples (put, call) of all pairs of a plain log."""
    return [
        (put, call)
        for put in indexes_of(log, "put") for call in indexes_of(log, "call")
        if put < call and log[put][2] in log[call][1]
    ]


def givings(log):
    """Return the list of all givings of a plain log, each call tried with each put."""
    found = [{}]
    for call in indexes_of(log, "call"):
        puts = [put for put, later in pairs(log) if later == call]
        found = found + [{**giving, call: put} for giving in found for put in puts if put not in giving.values()]
    return found


def best_moments(log):
    """Return the list of the best of the rows done, for each moment."""
    return [best(log[:moment]) for moment in range(len(log) + 1)]


def given(house, giver, log):
    """Return the list of (key, name) for each row of a plain log: the key of gives that a call uses, what it is given."""
    mark, there, told = 0, [], []
    for row in log:
        if row[0] == "put":
            there = there + [row[1:]]
            mark = giver[2][(mark, row[2])]
            told.append((None, None))
            continue
        kinds = tuple(kind for kind in row[1] if kind in [thing[1] for thing in there])
        key = (mark, row[1], kinds)
        kind, mark = giver[1][key]
        names = [thing[0] for thing in there if thing[1] == kind]
        told.append((key, names[0] if names else None))
        there = [thing for thing in there if thing[0] not in names[:1]]
    return told


def lots_that_can_be_struck(house, stretch):
    """Return the list of all lots without which the stretch is alike, each lot tried."""
    lots = [
        lot for size in range(len(stretch) + 1) for lot in itertools.combinations(range(len(stretch)), size)
    ]
    behind = act(house, stretch, len(stretch))
    return [lot for lot in lots if act(house, without(stretch, lot), len(stretch)) == behind]


def settled(stretch):
    """Return what is left of a stretch if couples of a put and a call go one by one, the first one first."""
    for at in range(len(stretch) - 1):
        one, other = stretch[at:at + 2]
        if one[0] == "put" and other[0] == "call" and other[1][0] == one[1]:
            return settled(stretch[:at] + stretch[at + 2:])
    return stretch


def names_behind(rows):
    """Return the set of the names of the things that are there behind rows."""
    return {name for name, kind in played(rows)[-1][1]} if rows else set()


def rows_by(log, mends, moment):
    """Return the tuple of the rows that are done at a moment with mends, in their order."""
    rows = []
    for index in range(moment + 1):
        rows.extend(mend[2] for mend in mends if mend[0] == "more" and mend[1] == index)
        if index < moment and ("less", index) not in mends:
            rows.append(log[index])
    return tuple(rows)


def apart(log, mends):
    """Return the list of the names that are there with mends alone, and without them alone, for each moment."""
    found = []
    for moment in range(len(log) + 1):
        one, other = names_behind(rows_by(log, mends, moment)), names_behind(log[:moment])
        found.append((tuple(sorted(one - other)), tuple(sorted(other - one))))
    return found


def played_on(there, row):
    """Return the list of (name, kind) of what is there behind a row, and what it tells."""
    puts = [("put", name, kind) for name, kind in there]
    told, behind = played([*puts, row])[-1]
    return behind, told


def wanderers(log, moment):
    """Return the list of (sort, name) of all wanderers at a moment."""
    here = names_behind(log[:moment])
    return [("less" if row[1] in here else "more", row[1]) for row in log[:moment] if row[0] == "put"]


def path(log, moment, sort, name):
    """Return the list of the names by which a wanderer differs, both going on by the same rows."""
    here = names_behind(log[:moment])
    other = here ^ {name}
    puts = [(row[1], row[2]) for row in log[:moment] if row[0] == "put"]
    one = [thing for thing in puts if thing[0] in here]
    two = [thing for thing in puts if thing[0] in other]
    names = [name]
    for row in log[moment:]:
        one, _ = played_on(one, row)
        two, _ = played_on(two, row)
        more, less = set(two) - set(one), set(one) - set(two)
        apart_now, none = (more, less) if sort == "more" else (less, more)
        assert len(apart_now) <= 1 and not none
        names.append(min(apart_now)[0] if apart_now else None)
    return names


def told_with(log, mends, index):
    """Return what the call with this index tells with mends, of which none leaves it out."""
    rows = rows_by(log, mends, index)
    return played([*rows, log[index]])[-1][0]


def chosen(house, choice, log):
    """Return the list of (name, kind) of what is there behind a log, calls going by a choice."""
    there = []
    for row in log:
        if row[0] == "put":
            there = there + [row[1:]]
            continue
        gone = [row[1]]
        if row[0] == "call":
            part = tuple(kind for kind in house[0] if kind in row[1] and kind in {thing[1] for thing in there})
            gone = [thing[0] for thing in there if thing[1] == choice[(row[1], part)]][:1]
        there = [thing for thing in there if thing[0] not in gone]
    return there


def ends_of_orders(house, amounts, deeds, later):
    """Return the list of the amounts behind all orders of deeds, and later behind them."""
    return [acted(house, order + later, amounts) for order in set(itertools.permutations(deeds))]


def with_further(stretch, sorts, most):
    """Return the list of all stretches with at most so many further deeds, as tuples of (deed, its index or None)."""
    found = {tuple((deed, index) for index, deed in enumerate(stretch))}
    last = found
    for _ in range(most):
        last = {
            marked[:at] + ((deed, None),) + marked[at:]
            for marked in last for at in range(len(marked) + 1) for deed in sorts
        }
        found = found | last
    return sorted(found, key=repr)


def kinds_taken_at(house, marked, amounts, index):
    """Return the kind that the deed with this index takes, None if none, further deeds being marked by None."""
    at = [mark for deed, mark in marked].index(index)
    left = acted(house, tuple(deed for deed, mark in marked[:at]), amounts)
    return next((kind for kind in marked[at][0][1] if left[kind] > 0), None)


def weavings(one, other):
    """Return the list of all weavings of two stretches."""
    many = len(one) + len(other)
    return [
        tuple(int(at in places) for at in range(many)) for places in itertools.combinations(range(many), len(other))
    ]


def woven(one, other, weaving):
    """Return the stretch that is woven so."""
    rest = {0: list(one), 1: list(other)}
    return tuple(rest[at].pop(0) for at in weaving)


def numbers_of(house, amounts):
    """Return amounts as a tuple in the order of the kinds."""
    return tuple(amounts[kind] for kind in house[0])


def is_enough(house, stretch, amounts):
    """Tell whether all calls of a stretch are served."""
    for at, (sort, what) in enumerate(stretch):
        left = acted(house, stretch[:at], amounts)
        if sort == "call" and not any(left[kind] for kind in what):
            return False
    return True


def least_needs(house, stretch):
    """Return the ascending list of all amounts, as tuples, that are enough, and not with one thing less."""
    enough = {
        numbers_of(house, amounts) for amounts in amounts_up_to(house, len(stretch)) if is_enough(house, stretch, amounts)
    }
    return sorted(
        numbers for numbers in enough
        if not any(numbers[:at] + (numbers[at] - 1,) + numbers[at + 1:] in enough for at in range(len(numbers)))
    )
