"""Beginning sets, and how many things they have."""

from calledbest.forms import in_order


def sets_of(kinds):
    """Return the list of all SETS of kinds."""
    sets = [()]
    for kind in kinds:
        sets = sets + [(*part, kind) for part in sets]
    return sets


def is_within(part, whole):
    """Tell whether all kinds of part stand in whole."""
    return all([kind in whole for kind in part])


def masks_needed(house, bits):
    """Return the dict from each kind to the bits of the kinds that are ahead of it in some call that accepts it."""
    needed = {kind: 0 for kind in house[0]}
    for call in house[1]:
        ahead = 0
        for kind in call:
            needed[kind] = needed[kind] | ahead
            ahead = ahead | bits[kind]
    return needed


def beginning_masks(house):
    """Return the dict from all beginning sets, ascending, to MASKS: integers with a bit for each of their kinds."""
    bits = {kind: 1 << at for at, kind in enumerate(house[0])}
    needed = masks_needed(house, bits)
    masks = {(): 0}
    for kind in house[0]:
        # A kind needs those that are ahead of it, and no others: these have had their turn.
        for part, mask in list(masks.items()):
            if mask & needed[kind] == needed[kind]:
                grown = (*part, kind)
                masks[grown] = mask | bits[kind]
    return {part: masks[part] for part in sorted(masks)}


def beginning_sets(house):
    """Return the ascending list of all beginning sets."""
    return list(beginning_masks(house))


def least_beginning(house, part):
    """Return the smallest beginning set that has all kinds of part."""
    needed = list(part)
    # From the last kind on: what a kind needs is ahead of it, and its turn comes later.
    for kind in reversed(house[0]):
        if kind in needed:
            needed = needed + kinds_ahead(house, kind)
    return in_order(house[0], needed)


def kinds_ahead(house, kind):
    """Return the list of the kinds that are ahead of a kind in some call that accepts it."""
    return [ahead for call in house[1] if kind in call for ahead in call[:call.index(kind)]]


def count_in(amounts, part):
    """Return the number of things of the kinds in part."""
    return sum([amounts[kind] for kind in part])


def counts_of(house, amounts):
    """Return the dict from all beginning sets to the numbers of things in them."""
    return {part: count_in(amounts, part) for part in beginning_sets(house)}


def amounts_of(house, counts):
    """Return the amounts that have such counts."""
    return {kind: count_of_kind(house, counts, kind) for kind in sorted(house[0])}


def count_of_kind(house, counts, kind):
    """Return how many things of a kind there are by counts."""
    part = least_beginning(house, (kind,))
    # The kind is the last one of part, and no kind of part needs it: the rest is a beginning set, too.
    return counts[part] - counts[part[:-1]]
