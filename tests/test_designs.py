"""[54]: houses made nested."""

import itertools
import random
import unittest

from calledbest.designs import calls_to_add, least_calls_out, merged, merges_that_nest, nested_by
from calledbest.errors import TooMany
from calledbest.forms import is_house
from calledbest.houses import part_of
from tests import plain
from tests.helpers import (
    AB, CROSSED, FORKED, GREATEST, ONE, CallCase, nested_random_houses, random_houses, small_houses,
)

EIGHT = (tuple("abcdef"), tuple(sorted([
    tuple("abcdef"), ("a",), ("a", "b"), ("b", "c"), ("c", "d"), ("d", "e"), ("e", "f"), ("a", "f"),
])))


def houses(seed):
    """Return small houses, and some large ones."""
    return small_houses() + random_houses(seed, 20) + nested_random_houses(seed, 8) + [GREATEST, EIGHT]


def rest_of(house, out):
    """Return the house without these calls."""
    return part_of(house, tuple(call for call in house[1] if call not in out))


def lots_out(house, holds):
    """Return the list of all lots of calls, but for all calls, such that the rest is as asked."""
    lots = [lot for size in range(len(house[1])) for lot in itertools.combinations(house[1], size)]
    return [lot for lot in lots if holds(rest_of(house, lot))]


def turns_nested(house):
    """Tell whether the house is nested in some order."""
    return plain.nested_orders(house) != []


class DesignsTest(CallCase):

    def test_by_hand(self):
        self.assertEqual(least_calls_out(CROSSED), [(("a",),), (("a", "b"),)])
        self.assertEqual((nested_by(CROSSED), nested_by(FORKED), nested_by(AB)), ((1, 1), (1, 0), (0, 0)))
        self.assertEqual(merges_that_nest(CROSSED), [("a", "b"), ("b", "a")])
        self.assertEqual(calls_to_add(AB), [])
        self.assertEqual(calls_to_add((("a", "b"), (("a", "b"),))), [("b",)])
        self.assertEqual(calls_to_add((("a", "b"), (("a",), ("b",)))), [])
        self.assertEqual(merged(CROSSED, "a", "b"), (("a",), (("a",),)))
        house = (("a", "b", "c"), (("a", "b"), ("a", "c"), ("b", "c")))
        self.assertEqual(merged(house, "c", "a"), (("b", "c"), (("b", "c"), ("c",))))
        self.assertEqual(merged(house, "a", "c"), (("a", "b"), (("a",), ("a", "b"))))

    def test_a_house_with_one_call(self):
        for house in (ONE, (("b", "a"), (("b", "a"),)), (tuple("abcdef"), (tuple("abcdef"),))):
            self.assertEqual((least_calls_out(house), nested_by(house)), ([()], (0, 0)))

    def test_least_calls_out(self):
        sizes = set()
        for house in houses(460):
            lots = lots_out(house, plain.tails_agree)
            expected = sorted(
                lot for lot in lots if not any(tuple(other for other in lot if other != call) in lots for call in lot)
            )
            told = self.assert_steady(least_calls_out, house)
            self.assertEqual(told, expected)
            self.assertEqual(told == [()], plain.tails_agree(house))
            sizes.update(len(lot) for lot in told)
        self.assertGreater(len(sizes), 5)

    def test_nested_by(self):
        met = set()
        for house in houses(461):
            told = self.assert_steady(nested_by, house)
            self.assertEqual(told[0], min(len(lot) for lot in lots_out(house, plain.tails_agree)))
            if len(house[0]) < 5:
                self.assertEqual(told[1], min(len(lot) for lot in lots_out(house, turns_nested)))
            else:
                self.assertEqual(told[1], min(len(lot) for lot in lots_out(house, lambda rest: plain.crossings(rest) == [])))
            self.assertIs(told.__class__, tuple)
            met.add(told)
        self.assertGreater(len(met), 8)

    def test_calls_to_add(self):
        sizes = set()
        for house in houses(462):
            if len(house[1]) == 8:
                self.assert_raises(TooMany, {"most": 8}, calls_to_add, house)
                continue
            expected = sorted(
                part for part in plain.sets(house)
                if part and part not in house[1] and plain.tails_agree((house[0], tuple(sorted([*house[1], part]))))
            )
            told = self.assert_steady(calls_to_add, house)
            self.assertEqual(told, expected)
            sizes.add(len(told))
        self.assertGreater(len(sizes), 2)

    def test_eight_calls(self):
        nested = (tuple("abcdef"), tuple(sorted([tuple("abcdef"[at:]) for at in range(6)])))
        self.assertEqual(calls_to_add(nested), [])
        self.assert_raises(TooMany, {"most": 8}, calls_to_add, GREATEST)
        self.assert_raises(TooMany, {"most": 8}, calls_to_add, EIGHT)
        seven = part_of(EIGHT, EIGHT[1][:7])
        self.assertEqual(calls_to_add(seven), [])

    def test_merged(self):
        equal = 0
        for house in houses(463):
            for one, other in itertools.permutations(house[0], 2):
                told = self.assert_steady(merged, house, one, other)
                self.assert_truth(True, is_house(told))
                self.assertEqual(told[0], tuple(kind for kind in house[0] if kind != other))
                expected = {frozenset(one if kind == other else kind for kind in call) for call in house[1]}
                self.assertEqual({frozenset(call) for call in told[1]}, expected)
                self.assertEqual(len(told[1]), len(expected))
                equal += len(told[1]) < len(house[1])
        self.assertGreater(equal, 50)

    def test_merges_that_nest(self):
        sizes = set()
        for house in houses(464):
            expected = sorted(
                couple for couple in itertools.permutations(house[0], 2) if plain.tails_agree(merged(house, *couple))
            )
            told = self.assert_steady(merges_that_nest, house)
            self.assertEqual(told, expected)
            sizes.add(len(told))
        self.assertEqual(merges_that_nest(ONE), [])
        self.assertGreater(len(sizes), 5)


if __name__ == "__main__":
    unittest.main()
