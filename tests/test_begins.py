"""[24]: beginning sets, of any house."""

import random
import unittest

from calledbest.begins import amounts_of, beginning_sets, count_in, counts_of, least_beginning
from tests import plain
from tests.helpers import (
    AB, CROSSED, FORKED, GREATEST, ONE, CallCase, all_amounts, nested_random_houses, random_houses, small_houses,
)


class BeginsTest(CallCase):

    def houses(self):
        return small_houses() + random_houses(80, 40) + nested_random_houses(80, 20) + [GREATEST]

    def test_by_hand(self):
        self.assertEqual(beginning_sets(ONE), [(), ("a",)])
        self.assertEqual(beginning_sets(AB), [(), ("a",), ("a", "b")])
        self.assertEqual(beginning_sets(CROSSED), [(), ("a",), ("a", "b")])
        self.assertEqual(beginning_sets((("b", "a"), (("a",), ("b",)))), [(), ("a",), ("b",), ("b", "a")])
        house = (("a", "b", "c"), (("a", "c"), ("b", "c")))
        self.assertEqual(beginning_sets(house), [(), ("a",), ("a", "b"), ("a", "b", "c"), ("b",)])
        self.assertEqual(least_beginning(house, ("c",)), ("a", "b", "c"))
        self.assertEqual(least_beginning(house, ("b",)), ("b",))
        # What c needs needs something in turn.
        house = (("a", "b", "c"), (("a", "b"), ("b", "c")))
        self.assertEqual(least_beginning(house, ("c",)), ("a", "b", "c"))

    def test_all_beginning_sets(self):
        for house in self.houses():
            told = self.assert_steady(beginning_sets, house)
            self.assertEqual(told, plain.beginning_sets(house))
            self.assertIn((), told)
            self.assertIn(house[0], told)

    def test_sixty_four_beginning_sets(self):
        kinds = tuple("abcdef")
        house = (kinds, tuple((kind,) for kind in kinds))
        self.assertEqual(beginning_sets(house), sorted(plain.sets(house)))
        self.assertEqual(len(beginning_sets(house)), 64)

    def test_least_beginning(self):
        for house in self.houses():
            begins = plain.beginning_sets(house)
            for part in plain.sets(house):
                holding = [begin for begin in begins if set(part) <= set(begin)]
                least = min(holding, key=len)
                self.assertTrue(all(set(least) <= set(begin) for begin in holding))
                self.assertEqual(least_beginning(house, part), least)
            self.assertEqual(least_beginning(house, ()), ())
            self.assertEqual(least_beginning(house, house[0]), house[0])

    def test_count_in(self):
        self.assertEqual(count_in({"b": 3, "a": 10 ** 30}, ("a", "b")), 10 ** 30 + 3)
        self.assertEqual(count_in({"b": 3, "a": 1}, ("b",)), 3)
        self.assertEqual(count_in({"b": 3, "a": 1}, ()), 0)
        self.assertIs(count_in({"a": 1}, ()).__class__, int)

    def test_counts_and_amounts(self):
        chance = random.Random(81)
        for house in self.houses():
            for amounts in chance.sample(all_amounts(house, 2), 2) + [{kind: 10 ** 9 for kind in house[0][::-1]}]:
                counts = self.assert_steady(counts_of, house, amounts)
                expected = {part: plain.count(amounts, part) for part in plain.beginning_sets(house)}
                self.assertEqual(counts, expected)
                turned = {part: counts[part] for part in reversed(list(counts))}
                self.assertEqual(self.assert_steady(amounts_of, house, turned), amounts)
                self.assertEqual(self.assert_steady(amounts_of, house, counts), amounts)

    def test_houses_that_are_not_nested(self):
        self.assertEqual(counts_of(FORKED, {"b": 5, "a": 2}), {(): 0, ("a",): 2, ("a", "b"): 7})
        self.assertEqual(amounts_of(FORKED, {("a", "b"): 7, (): 0, ("a",): 2}), {"a": 2, "b": 5})


if __name__ == "__main__":
    unittest.main()
