"""[44]: what has to be there so that all calls are served."""

import itertools
import random
import unittest

from calledbest.errors import TooMany
from calledbest.needs import are_all_served, cheapest_need, least_needs
from tests import plain
from tests.helpers import (
    AB, CROSSED, FORKED, GREATEST, ONE, CallCase, nested_random_houses, random_houses, random_stretch, small_houses,
    turned_about,
)

STRETCH = (("call", ("a", "b")), ("call", ("b",)))
THREE = (("a", "b", "c"), (("a",), ("a", "b"), ("a", "b", "c"), ("c",)))
FOUR = (("a", "b", "c", "d"), (("a", "b"), ("a", "c"), ("a", "d")))
FIVE = (tuple("edcba"), (tuple("edcba"), ("e",)))
# The greatest number of calls with which n + 1 to the power of the number of kinds is no more than 20,000.
GREATEST_LENGTHS = [(AB, 140), (FORKED, 140), (CROSSED, 140), (THREE, 26), (FOUR, 10), (FIVE, 6), (GREATEST, 4)]


def calls_of(chance, house, many):
    """Return a stretch of so many calls."""
    return tuple(("call", chance.choice(house[1])) for _ in range(many))


def mixed(chance, house, calls, puts):
    """Return a stretch of so many calls and puts in any order."""
    deeds = list(calls_of(chance, house, calls)) + [("put", chance.choice(house[0])) for _ in range(puts)]
    chance.shuffle(deeds)
    return tuple(deeds)


class NeedsTest(CallCase):

    def test_by_hand(self):
        self.assertEqual(least_needs(AB, STRETCH), [(0, 2), (1, 1)])
        self.assertEqual(cheapest_need(AB, STRETCH, {"b": 1, "a": 5}), (2, {"a": 0, "b": 2}))
        self.assertEqual(cheapest_need(AB, STRETCH, {"a": 1, "b": 5}), (6, {"a": 1, "b": 1}))
        self.assertEqual(cheapest_need(AB, STRETCH, {"a": 5, "b": 5}), (10, {"a": 0, "b": 2}))
        # The thing of a is gone for the second call: one of b would be enough for it.
        stretch = (("call", ("a", "b")), ("call", ("a",)))
        self.assertEqual(least_needs(FORKED, stretch), [(2, 0)])
        self.assertEqual(least_needs(FORKED, stretch[::-1]), [(1, 1), (2, 0)])
        self.assert_truth(False, are_all_served(FORKED, stretch, {"a": 1, "b": 9}))
        self.assert_truth(True, are_all_served(FORKED, stretch, {"a": 2, "b": 0}))

    def test_no_deeds_and_no_calls(self):
        for house in small_houses()[::5] + [GREATEST]:
            for stretch in ((), (("put", house[0][0]),) * 200):
                prices = {kind: 10 ** 30 for kind in house[0]}
                none = {kind: 0 for kind in house[0]}
                self.assertEqual(least_needs(house, stretch), [plain.numbers_of(house, none)])
                self.assertEqual(cheapest_need(house, stretch, prices), (0, none))
                self.assert_truth(True, are_all_served(house, stretch, none))

    def hold(self, chance, house, stretch, needs):
        """All needs are told, and of the cheapest ones the first one."""
        self.assertEqual(self.assert_steady(least_needs, house, stretch), needs)
        for most in (0, 1, 3, 10 ** 30):
            prices = turned_about({kind: chance.randint(0, most) for kind in sorted(house[0])})
            sums = [sum(prices[kind] * number for kind, number in zip(house[0], numbers)) for numbers in needs]
            total, amounts = self.assert_steady(cheapest_need, house, stretch, prices)
            self.assertEqual(total, min(sums))
            self.assertEqual(plain.numbers_of(house, amounts), needs[sums.index(total)])

    def test_all_amounts(self):
        chance = random.Random(330)
        sizes = set()
        for house in small_houses() + random_houses(330, 20, 4):
            for length in (1, 2, 4) if len(house[0]) < 4 else (1, 3):
                stretch = random_stretch(chance, house, length)
                needs = plain.least_needs(house, stretch)
                sizes.add(len(needs))
                self.hold(chance, house, stretch, needs)
        for house in (FORKED, CROSSED, AB):
            stretch = random_stretch(chance, house, 12)
            self.hold(chance, house, stretch, plain.least_needs(house, stretch))
        self.assertGreater(len(sizes), 4)

    def test_are_all_served(self):
        chance = random.Random(331)
        met = set()
        for house in small_houses() + random_houses(331, 10):
            stretch = random_stretch(chance, house, chance.choice([2, 5, 30]))
            for many in (0, 1, 4, 10 ** 9):
                amounts = turned_about({kind: chance.randint(0, many) for kind in sorted(house[0])})
                enough = plain.is_enough(house, stretch, amounts)
                met.add(enough)
                self.assert_truth(enough, self.assert_steady(are_all_served, house, stretch, amounts))
                # It stays so with more things.
                if enough:
                    for kind in house[0]:
                        self.assert_truth(True, are_all_served(house, stretch, {**amounts, kind: amounts[kind] + 1}))
        self.assertEqual(met, {True, False})

    def test_nested_houses_need_as_many_as_are_not_served(self):
        chance = random.Random(332)
        for house in [house for house in small_houses() if plain.tails_agree(house)] + nested_random_houses(332, 12):
            stretch = mixed(chance, house, 4, chance.choice([0, 3, 10]))
            left = plain.acted(house, stretch, {kind: 0 for kind in house[0]})
            puts = len([deed for deed in stretch if deed[0] == "put"])
            lacking = 4 - (puts - sum(left.values()))
            self.assertEqual({sum(numbers) for numbers in least_needs(house, stretch)}, {lacking})

    def test_a_put_ahead_and_behind(self):
        call, put = ("call", ("a",)), ("put", "a")
        self.assertEqual(least_needs(ONE, (put, call)), [(0,)])
        self.assertEqual(least_needs(ONE, (call, put)), [(1,)])
        self.assertEqual(least_needs(ONE, (call,) * 100 + (put,) * 100), [(100,)])

    def test_just_at_most_twenty_thousand_amounts(self):
        chance = random.Random(333)
        for house, calls in GREATEST_LENGTHS:
            self.assertLessEqual((calls + 1) ** len(house[0]), 20000)
            self.assertGreater((calls + 2) ** len(house[0]), 20000)
            for puts in (0, 200 - calls):
                stretch = mixed(chance, house, calls, puts)
                needs = least_needs(house, stretch)
                self.assertEqual(needs, sorted(set(needs)))
                for numbers in chance.sample(needs, min(len(needs), 6)):
                    amounts = dict(zip(house[0], numbers))
                    self.assertTrue(plain.is_enough(house, stretch, amounts))
                    for kind in house[0]:
                        if amounts[kind]:
                            self.assertFalse(plain.is_enough(house, stretch, {**amounts, kind: amounts[kind] - 1}))
                self.hold_others(chance, house, stretch, calls, needs)
            for more in (mixed(chance, house, calls + 1, 0), mixed(chance, house, calls + 1, 20), mixed(chance, house, 200, 0)):
                self.assert_raises(TooMany, {"most": 20000}, least_needs, house, more)
                self.assert_raises(TooMany, {"most": 20000}, cheapest_need, house, more, {kind: 0 for kind in house[0]})

    def hold_others(self, chance, house, stretch, calls, needs):
        """Any amounts that are enough have all of one of the needs."""
        for _ in range(20):
            numbers = tuple(chance.randint(0, calls) for _ in house[0])
            above = any(all(have >= need for have, need in zip(numbers, least)) for least in needs)
            self.assertEqual(above, plain.is_enough(house, stretch, dict(zip(house[0], numbers))))

    def test_one_kind_has_no_bound(self):
        self.assertEqual(least_needs(ONE, (("call", ("a",)),) * 200), [(200,)])

    def test_prices_of_nothing(self):
        for house, calls in ((AB, 3), (CROSSED, 4), (THREE, 3)):
            for stretch in itertools.islice(itertools.product([("call", call) for call in house[1]], repeat=calls), 12):
                needs = least_needs(house, stretch)
                free = {kind: 0 for kind in house[0]}
                self.assertEqual(cheapest_need(house, stretch, free), (0, dict(zip(house[0], needs[0]))))
                greatest = {kind: 10 ** 30 for kind in house[0]}
                self.assertEqual(cheapest_need(house, stretch, greatest)[0], 10 ** 30 * min(sum(numbers) for numbers in needs))


if __name__ == "__main__":
    unittest.main()
