"""Orders of the kinds by which a house is nested."""

from itertools import permutations

from calledbest.crossings import check_uncrossed, crossings_of
from calledbest.houses import accepting


def accepted_less(house, one, other):
    """Tell whether the calls that accept one are some, but not all, of those that accept other."""
    ones = accepting(house, one)
    others = accepting(house, other)
    return len(ones) < len(others) and all([call in others for call in ones])


def less_pairs(house):
    """Return the ascending list of the tuples of two kinds of which the first is accepted less."""
    kinds = sorted(house[0])
    return [(one, other) for one in kinds for other in kinds if accepted_less(house, one, other)]


def keeps(order, pairs):
    """Tell whether the first kind of each pair is ahead of the second one in an order."""
    return all([order.index(one) < order.index(other) for one, other in pairs])


def nested_orders(house):
    """Return the ascending list of all orders by which the house is nested."""
    if crossings_of(house) != []:
        return []
    kinds = sorted(house[0])
    pairs = less_pairs(house)
    return [order for order in permutations(kinds) if keeps(order, pairs)]


def nested_order(house):
    """Return the first order by which the house is nested."""
    check_uncrossed(house)
    return nested_orders(house)[0]


def bound_pairs(house):
    """Return the ascending list of the tuples of kinds of which the first is ahead in all nested orders."""
    check_uncrossed(house)
    # Whatever is accepted less than b is less than all that b is less than: these pairs imply no further ones.
    return less_pairs(house)


def turned_pairs(house, order):
    """Return how many pairs of kinds stand the other way about in an order than in the house."""
    places = [order.index(kind) for kind in house[0]]
    return len([1 for at, place in enumerate(places) for later in places[at + 1:] if later < place])


def nearest_order(house):
    """Return the least number of pairs turned by a nested order, and the first order with so few."""
    check_uncrossed(house)
    return min([(turned_pairs(house, order), order) for order in nested_orders(house)])
