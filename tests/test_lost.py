"""[39] and [40], and what [9] says of lost order."""

import collections
import random
import unittest

from calledbest.errors import NoNumber, NotNested
from calledbest.lost import lost_ends
from calledbest.ordering import order_with
from tests import plain
from tests.helpers import (
    AB, CROSSED, FORKED, GREATEST, ONE, CallCase, nested_random_houses, random_houses, random_stretch, small_houses,
    turned_about,
)

DEEDS = (("put", "a"), ("put", "b"), ("call", ("a", "b")), ("call", ("a", "b")))
NOTHING = {"b": 0, "a": 0}


def cases(seed, deeds):
    """Return the list of nested houses, amounts, so many deeds at most, and deeds that follow."""
    chance = random.Random(seed)
    nested = [house for house in small_houses() if plain.tails_agree(house)] + nested_random_houses(seed, 15)
    found = []
    for house in nested:
        for most in (0, 2):
            amounts = turned_about({kind: chance.randint(0, most) for kind in sorted(house[0])})
            stretch = random_stretch(chance, house, chance.choice([0, 1, 3, deeds, deeds]))
            found.append((house, amounts, stretch, random_stretch(chance, house, chance.choice([0, 2, 6]))))
    return found


class LostTest(CallCase):

    def test_by_hand(self):
        self.assertEqual(lost_ends(AB, NOTHING, DEEDS, ()), (
            {(): 0, ("a",): 0, ("a", "b"): 0}, {(): 0, ("a",): 1, ("a", "b"): 2},
        ))
        self.assertEqual(lost_ends(AB, NOTHING, DEEDS, DEEDS[2:]), (
            {(): 0, ("a",): 0, ("a", "b"): 0}, {(): 0, ("a",): 0, ("a", "b"): 0},
        ))
        self.assertEqual(order_with(AB, NOTHING, DEEDS[1:3], (), ("a", "b"), 1), (("call", ("a", "b")), ("put", "b")))
        self.assertEqual(order_with(AB, NOTHING, DEEDS[1:3], (), ("a", "b"), 0), (("put", "b"), ("call", ("a", "b"))))
        self.assertEqual(order_with(ONE, {"a": 3}, (), (), ("a",), 3), ())

    def test_all_orders(self):
        apart = 0
        for house, amounts, deeds, later in cases(230, 5):
            ends = plain.ends_of_orders(house, amounts, deeds, later)
            told = self.assert_steady(lost_ends, house, amounts, deeds, later)
            self.assertIs(told.__class__, tuple)
            least, greatest = told
            begins = plain.beginning_sets(house)
            self.assertEqual(list(least), begins)
            self.assertEqual(list(greatest), begins)
            for part in begins:
                numbers = {plain.count(end, part) for end in ends}
                self.assertEqual(least[part], min(numbers))
                self.assertEqual(greatest[part], max(numbers))
                # [9]: all integers between them come about.
                self.assertEqual(numbers, set(range(least[part], greatest[part] + 1)))
                apart += len(numbers) > 1
        self.assertGreater(apart, 50)

    def hold_orders(self, house, amounts, deeds, later, part, numbers):
        """For each number there is an order with just these deeds."""
        for number in numbers:
            order = self.assert_steady(order_with, house, amounts, deeds, later, part, number)
            self.assertIs(order.__class__, tuple)
            self.assertEqual(collections.Counter(order), collections.Counter(deeds))
            self.assertEqual(plain.count(plain.acted(house, order + later, amounts), part), number)

    def test_all_numbers(self):
        for house, amounts, deeds, later in cases(231, 8):
            least, greatest = lost_ends(house, amounts, deeds, later)
            for part in least:
                self.hold_orders(house, amounts, deeds, later, part, range(least[part], greatest[part] + 1))
                for number in (least[part] - 1, greatest[part] + 1, -1, 10 ** 30, -10 ** 30):
                    self.assert_raises(NoNumber, {"number": number}, order_with, house, amounts, deeds, later, part, number)

    def test_the_empty_part_and_all_kinds(self):
        for house, amounts, deeds, later in cases(232, 6)[::3]:
            self.hold_orders(house, amounts, deeds, later, (), [0])
            for number in (-1, 1):
                self.assert_raises(NoNumber, {"number": number}, order_with, house, amounts, deeds, later, (), number)
            least, greatest = lost_ends(house, amounts, deeds, later)
            self.assertEqual((least[()], greatest[()]), (0, 0))
            ends = [sum(end.values()) for end in plain.ends_of_orders(house, amounts, deeds, later)]
            self.assertEqual((least[house[0]], greatest[house[0]]), (min(ends), max(ends)))

    def test_puts_or_calls_alone(self):
        puts, calls = DEEDS[:2], DEEDS[2:]
        for deeds in ((), puts, calls, puts * 50, calls * 50):
            for amounts in (NOTHING, {"a": 10 ** 9, "b": 10 ** 9}):
                least, greatest = lost_ends(AB, amounts, deeds, DEEDS)
                self.assertEqual(least, greatest)
                for part in least:
                    self.hold_orders(AB, amounts, deeds, DEEDS, part, [least[part]])
                    for number in (least[part] - 1, least[part] + 1):
                        self.assert_raises(NoNumber, {"number": number}, order_with, AB, amounts, deeds, DEEDS, part, number)

    def test_two_hundred_deeds(self):
        chance = random.Random(233)
        star = (tuple("abcdef"), tuple(sorted([("f",)] + [(kind, "f") for kind in "abcde"])))
        for house in [ONE, AB, star, *nested_random_houses(233, 4)]:
            for many in (0, 5, 10 ** 9):
                amounts = {kind: many for kind in house[0]}
                deeds, later = random_stretch(chance, house, 200), random_stretch(chance, house, chance.choice([0, 200]))
                least, greatest = lost_ends(house, amounts, deeds, later)
                puts = tuple(deed for deed in deeds if deed[0] == "put")
                calls = tuple(deed for deed in deeds if deed[0] == "call")
                for part in least:
                    self.assertEqual(least[part], plain.count(plain.acted(house, puts + calls + later, amounts), part))
                    self.assertEqual(greatest[part], plain.count(plain.acted(house, calls + puts + later, amounts), part))
                part = chance.choice(list(least))
                numbers = {least[part], (least[part] + greatest[part]) // 2, greatest[part]}
                self.hold_orders(house, amounts, deeds, later, part, sorted(numbers))
                for _ in range(3):
                    other = plain.acted(house, tuple(chance.sample(deeds, 200)) + later, amounts)
                    self.assertTrue(all(least[part] <= plain.count(other, part) <= greatest[part] for part in least))
        puts, calls = (("put", "a"),) * 100, (("call", ("a",)),) * 100
        self.hold_orders(ONE, {"a": 0}, puts + calls, (), ("a",), range(0, 101, 9))
        self.hold_orders(ONE, {"a": 0}, calls + puts, calls[:50], ("a",), range(51))
        self.assert_raises(NoNumber, {"number": 101}, order_with, ONE, {"a": 0}, puts + calls, (), ("a",), 101)

    def test_houses_that_are_not_nested(self):
        for house in [FORKED, CROSSED, GREATEST] + random_houses(234, 30):
            forks = plain.forks(house)
            if forks:
                amounts = {kind: 1 for kind in house[0]}
                deeds = (("put", house[0][0]), ("call", house[1][0]))
                self.assert_raises(NotNested, {"fork": forks[0]}, lost_ends, house, amounts, deeds, ())
                # A number that cannot come about is told of behind.
                for number in (0, 1, -1, 10 ** 30):
                    self.assert_raises(NotNested, {"fork": forks[0]}, order_with, house, amounts, deeds, (), (), number)


if __name__ == "__main__":
    unittest.main()
