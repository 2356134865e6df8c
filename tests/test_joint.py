"""[42]: what all orders of deeds make of amounts."""

import collections
import itertools
import random
import unittest

from calledbest.errors import NoNumber, TooMany
from calledbest.joint import joint_amounts, order_to
from calledbest.lost import lost_ends
from tests import plain
from tests.helpers import (
    AB, CROSSED, FORKED, GREATEST, ONE, CallCase, any_values, deeds_of, random_houses, random_stretch, small_houses,
    turned_about,
)

NOTHING = {"b": 0, "a": 0}
DEEDS = (("put", "a"), ("put", "b"), ("call", ("a", "b")), ("call", ("a", "b")))


def all_ends(house, amounts, deeds):
    """Return the ascending list of the ends of all orders, as tuples."""
    return sorted({plain.numbers_of(house, end) for end in plain.ends_of_orders(house, amounts, deeds, ())})


def ends_of_equal(house, amounts, deeds):
    """Return the same for deeds of which many are equal: each different order once, whatever deeds are equal."""
    orders = {()}
    for deed in deeds:
        orders = {order[:at] + (deed,) + order[at:] for order in orders for at in range(len(order) + 1)}
    return sorted({plain.numbers_of(house, plain.acted(house, order, amounts)) for order in orders})


class JointTest(CallCase):

    def hold(self, house, amounts, deeds, ends):
        self.assertEqual(self.assert_steady(joint_amounts, house, amounts, deeds), ends)
        for numbers in ends:
            order = self.assert_steady(order_to, house, amounts, deeds, numbers)
            self.assertIs(order.__class__, tuple)
            self.assertEqual(collections.Counter(order), collections.Counter(deeds))
            self.assertEqual(plain.numbers_of(house, plain.acted(house, order, amounts)), numbers)
        others = [numbers for numbers in itertools.product(range(3), repeat=len(house[0])) if numbers not in ends]
        for numbers in others[::len(others) // 10 + 1]:
            self.assert_raises(NoNumber, {"number": numbers}, order_to, house, amounts, deeds, numbers)

    def test_by_hand(self):
        self.assertEqual(joint_amounts(AB, NOTHING, DEEDS), [(0, 0), (0, 1), (1, 0), (1, 1)])
        self.assertEqual(order_to(AB, NOTHING, DEEDS[:3], (1, 1))[0], DEEDS[2])
        self.assertEqual(joint_amounts(ONE, {"a": 3}, ()), [(3,)])
        self.assertEqual(order_to(ONE, {"a": 3}, (), (3,)), ())

    def test_all_orders(self):
        chance = random.Random(310)
        sizes = set()
        for house in small_houses()[::2] + random_houses(310, 15):
            for length in (0, 2, 5, 6):
                amounts = turned_about({kind: chance.randint(0, 1) for kind in sorted(house[0])})
                deeds = random_stretch(chance, house, length)
                ends = all_ends(house, amounts, deeds)
                sizes.add(len(ends))
                self.hold(house, amounts, deeds, ends)
        self.assertGreater(len(sizes), 6)

    def test_twelve_deeds_many_equal(self):
        chance = random.Random(311)
        for house in (ONE, AB, FORKED, CROSSED, GREATEST, *random_houses(311, 4)):
            for counts in ((12,), (10, 2), (9, 3), (7, 5), (8, 2, 2)):
                different = deeds_of(house)
                if len(counts) > len(different):
                    continue
                deeds = [deed for deed, many in zip(chance.sample(different, len(counts)), counts) for _ in range(many)]
                chance.shuffle(deeds)
                amounts = {kind: chance.choice([0, 0, 1, 10 ** 9]) for kind in house[0]}
                self.hold(house, amounts, tuple(deeds), ends_of_equal(house, amounts, deeds))

    def test_twelve_different_deeds(self):
        chance = random.Random(312)
        for house in (GREATEST, *[house for house in random_houses(312, 60) if len(deeds_of(house)) >= 12][:2]):
            for many in (0, 1, 10 ** 9):
                deeds = tuple(chance.sample(deeds_of(house), 12))
                amounts = {kind: many for kind in house[0]}
                ends = joint_amounts(house, amounts, deeds)
                self.assertEqual(ends, sorted(set(ends)))
                for _ in range(100):
                    order = tuple(chance.sample(deeds, 12))
                    self.assertIn(plain.numbers_of(house, plain.acted(house, order, amounts)), ends)
                for numbers in chance.sample(ends, min(4, len(ends))):
                    order = order_to(house, amounts, deeds, numbers)
                    self.assertEqual(sorted(order), sorted(deeds))
                    self.assertEqual(plain.numbers_of(house, plain.acted(house, order, amounts)), numbers)

    def test_nested_houses_between_the_ends(self):
        chance = random.Random(313)
        for house in [house for house in small_houses() if plain.tails_agree(house)]:
            amounts = {kind: chance.randint(0, 2) for kind in house[0]}
            deeds = random_stretch(chance, house, 9)
            ends = joint_amounts(house, amounts, deeds)
            least, greatest = lost_ends(house, amounts, deeds, ())
            for part in least:
                counts = {sum(number for kind, number in zip(house[0], numbers) if kind in part) for numbers in ends}
                self.assertEqual(counts, set(range(least[part], greatest[part] + 1)))

    def test_thirteen_deeds(self):
        for deeds in ((("put", "a"),) * 13, DEEDS * 4, (("call", ("a", "b")),) * 200):
            self.assert_raises(TooMany, {"most": 12}, joint_amounts, AB, NOTHING, deeds)
            # Ahead of numbers that are none.
            for numbers in ((13, 0), (0, 0), None, [0, 0]):
                self.assert_raises(TooMany, {"most": 12}, order_to, AB, NOTHING, deeds, numbers)
        self.assertEqual(joint_amounts(AB, NOTHING, (("put", "a"),) * 12), [(12, 0)])
        self.assertEqual(order_to(AB, NOTHING, (("put", "a"),) * 12, (12, 0)), (("put", "a"),) * 12)

    def test_no_numbers(self):
        # Both (0, 0) and (1, 1) come about.
        for value in any_values() + [
            (0,), (0, 0, 0), [0, 0], [1, 1], (True, True), (False, False), (1, True), (0, False), ("0", "0"), ((0, 0),), {0: 0},
            ([], []), (-1, 0), (2, 0), (0, 10 ** 30), {"a": 0, "b": 0},
        ]:
            self.assert_raises(NoNumber, {"number": value}, order_to, AB, NOTHING, DEEDS, value)
        self.assert_raises(NoNumber, {"number": (True,)}, order_to, ONE, {"a": 1}, (), (True,))


if __name__ == "__main__":
    unittest.main()
