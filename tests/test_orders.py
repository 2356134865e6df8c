"""[21]: orders by which a house is nested."""

import itertools
import unittest

from calledbest.errors import Crosses
from calledbest.orders import accepted_less, bound_pairs, nearest_order, nested_order, nested_orders
from tests import plain
from tests.helpers import AB, CROSSED, FORKED, GREATEST, ONE, CallCase, nested_random_houses, random_houses, small_houses


def turned(house, order):
    """Return how many pairs of kinds stand the other way about."""
    return sum(1 for one, other in itertools.combinations(house[0], 2) if order.index(one) > order.index(other))


class OrdersTest(CallCase):

    def houses(self):
        return small_houses() + random_houses(50, 60, 4) + nested_random_houses(50, 25)

    def test_accepted_less(self):
        self.assert_truth(True, accepted_less(AB, "a", "b"))
        self.assert_truth(False, accepted_less(AB, "b", "a"))
        self.assert_truth(False, accepted_less(AB, "a", "a"))
        self.assert_truth(False, accepted_less(CROSSED, "a", "b"))
        self.assert_truth(False, accepted_less((("a", "b"), (("a", "b"),)), "a", "b"))
        for house in self.houses() + [GREATEST]:
            for one, other in itertools.product(house[0], repeat=2):
                all_too = all(other in call for call in house[1] if one in call)
                some_more = any(other in call and one not in call for call in house[1])
                self.assert_truth(all_too and some_more, accepted_less(house, one, other))

    def test_by_hand(self):
        self.assertEqual(nested_orders(ONE), [("a",)])
        self.assertEqual(nested_orders(AB), [("a", "b")])
        self.assertEqual(nested_orders(FORKED), [("b", "a")])
        self.assertEqual(nested_orders(CROSSED), [])
        self.assertEqual(nearest_order(FORKED), (1, ("b", "a")))
        self.assertEqual(nearest_order(AB), (0, ("a", "b")))
        self.assertEqual(nested_orders((("b", "a"), (("b", "a"),))), [("a", "b"), ("b", "a")])
        self.assertEqual(nested_order((("b", "a"), (("b", "a"),))), ("a", "b"))
        self.assertEqual(nearest_order((("b", "a"), (("b", "a"),))), (0, ("b", "a")))
        self.assertEqual(bound_pairs((("b", "a"), (("b", "a"),))), [])
        self.assertEqual(bound_pairs((("b", "a"), (("a",), ("b", "a")))), [("b", "a")])

    def test_all_orders_tried(self):
        crossed = 0
        for house in self.houses():
            orders = plain.nested_orders(house)
            self.assertEqual(self.assert_steady(nested_orders, house), orders)
            self.assertEqual(orders == [], plain.crossings(house) != [])
            if orders == []:
                crossed += 1
                for function in (nested_order, bound_pairs, nearest_order):
                    self.assert_raises(Crosses, {"crossing": plain.crossings(house)[0]}, function, house)
                continue
            self.assertEqual(nested_order(house), orders[0])
            pairs = [
                pair for pair in itertools.permutations(sorted(house[0]), 2)
                if all(order.index(pair[0]) < order.index(pair[1]) for order in orders)
            ]
            self.assertEqual(self.assert_steady(bound_pairs, house), pairs)
            fewest = min(turned(house, order) for order in orders)
            first = [order for order in orders if turned(house, order) == fewest][0]
            self.assertEqual(nearest_order(house), (fewest, first))
        self.assertGreater(crossed, 20)

    def test_nearest_among_several(self):
        # Of the orders b, c, a and c, b, a the house's own is nearer to neither: the first one is told.
        house = (("a", "b", "c"), (("a",), ("a", "b"), ("a", "c")))
        self.assertEqual(nested_orders(house), [("b", "c", "a"), ("c", "b", "a")])
        self.assertEqual(nearest_order(house), (2, ("b", "c", "a")))
        house = (("c", "b", "a"), (("a",), ("b",), ("c",)))
        self.assertEqual(nearest_order(house), (0, ("c", "b", "a")))

    def test_six_kinds(self):
        house = (tuple("fedcba"), (tuple("fedcba"),))
        orders = nested_orders(house)
        self.assertEqual(orders, list(itertools.permutations("abcdef")))
        self.assertEqual(nearest_order(house), (0, tuple("fedcba")))
        self.assertEqual(bound_pairs(house), [])
        house = (tuple("abcdef"), tuple(tuple("abcdef"[:end]) for end in range(1, 7)))
        self.assertEqual(nested_orders(house), [tuple("fedcba")])
        self.assertEqual(nearest_order(house), (15, tuple("fedcba")))
        self.assertEqual(len(bound_pairs(house)), 15)


if __name__ == "__main__":
    unittest.main()
