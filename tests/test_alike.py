"""[26], and what [7] says of stretches that are alike."""

import itertools
import random
import unittest

from calledbest.alike import are_alike, parting_amounts
from calledbest.briefs import brief_of
from calledbest.errors import TooMany
from calledbest.forms import is_amounts
from tests import plain
from tests.helpers import (
    AB, CROSSED, FORKED, GREATEST, ONE, CallCase, deeds_of, nested_random_houses, random_houses, random_stretch,
    small_houses,
)

THREE = (("a", "b", "c"), (("a",), ("a", "b"), ("a", "b", "c"), ("c",)))
FOUR = (("a", "b", "c", "d"), (("a", "b"), ("a", "c"), ("a", "d")))
FIVE = (tuple("edcba"), (tuple("edcba"), ("e",)))
# The greatest number of deeds with which n + 1 to the power of the number of kinds is no more than 20,000.
GREATEST_LENGTHS = [(CROSSED, 140), (THREE, 26), (FOUR, 10), (FIVE, 6), (GREATEST, 4)]


def neighbours(chance, stretch):
    """Return a stretch with the same deeds, two neighbours of which may have changed places."""
    if len(stretch) < 2:
        return stretch
    at = chance.randrange(len(stretch) - 1)
    return stretch[:at] + (stretch[at + 1], stretch[at]) + stretch[at + 2:]


class AlikeTest(CallCase):

    def hold(self, house, one, other):
        """The answers are those of all amounts of [7]; return whether the stretches are alike."""
        alike = plain.alike(house, one, other)
        self.assert_truth(alike, are_alike(house, one, other))
        amounts = self.assert_steady(parting_amounts, house, one, other)
        if alike:
            self.assertIsNone(amounts)
        else:
            self.hold_parting(house, one, other, amounts)
        return alike

    def hold_parting(self, house, one, other, amounts):
        self.assertTrue(is_amounts(house, amounts))
        self.assertNotEqual(plain.acted(house, one, amounts), plain.acted(house, other, amounts))

    def test_by_hand(self):
        put, call = ("put", "a"), ("call", ("a",))
        self.assert_truth(True, are_alike(ONE, (put, call), ()))
        self.assert_truth(False, are_alike(ONE, (call, put), ()))
        self.assertEqual(parting_amounts(ONE, (call, put), ()), {"a": 0})
        self.assertIsNone(parting_amounts(ONE, (put, call), ()))
        self.assert_truth(True, are_alike(AB, (("call", ("b",)), ("call", ("a", "b"))), (("call", ("a", "b")), ("call", ("b",)))))
        one, other = (("call", ("a",)), ("call", ("a", "b"))), (("call", ("a", "b")), ("call", ("a",)))
        self.assert_truth(False, are_alike(FORKED, one, other))
        self.assertEqual(parting_amounts(FORKED, one, other), {"a": 1, "b": 1})

    def test_the_empty_stretch(self):
        for house in small_houses() + [GREATEST]:
            self.assert_truth(True, are_alike(house, (), ()))
            self.assertIsNone(parting_amounts(house, (), ()))
            for deed in deeds_of(house):
                self.assert_truth(False, are_alike(house, (deed,), ()))
                self.hold_parting(house, (), (deed,), self.assert_steady(parting_amounts, house, (), (deed,)))

    def test_all_short_stretches(self):
        for house in (ONE, AB, FORKED, CROSSED):
            stretches = [stretch for length in range(3) for stretch in plain.all_stretches(house, length)]
            for one, other in itertools.combinations_with_replacement(stretches, 2):
                self.hold(house, one, other)

    def test_any_house(self):
        chance = random.Random(100)
        met = set()
        for house in small_houses() + random_houses(100, 8, 4) + nested_random_houses(100, 8):
            for length in (1, 2, 3):
                one = random_stretch(chance, house, length)
                near = neighbours(chance, one)
                for other in (near, random_stretch(chance, house, chance.randint(0, 3)), one + one[:0]):
                    met.add((plain.tails_agree(house), self.hold(house, one, other), one == other))
        self.assertEqual(len(met), 6)

    def test_longer_stretches(self):
        chance = random.Random(101)
        for house, length in ((FORKED, 12), (CROSSED, 15), (THREE, 7), (AB, 15)):
            one = random_stretch(chance, house, length)
            other = one
            for _ in range(8):
                other = neighbours(chance, other)
                self.hold(house, one, other)

    def test_nested_houses_by_their_briefs(self):
        chance = random.Random(102)
        met = set()
        for house in nested_random_houses(102, 30):
            one = random_stretch(chance, house, chance.choice([6, 20]))
            other = one
            for _ in range(4):
                other = neighbours(chance, other)
                alike = brief_of(house, one) == brief_of(house, other)
                self.assert_truth(alike, are_alike(house, one, other))
                if not alike:
                    self.hold_parting(house, one, other, parting_amounts(house, one, other))
                met.add((alike, one == other))
        self.assertIn((True, False), met)
        self.assertIn((False, False), met)

    def test_just_twenty_thousand_and_just_more(self):
        chance = random.Random(103)
        for house, length in GREATEST_LENGTHS:
            self.assertLessEqual((length + 1) ** len(house[0]), 20000)
            self.assertGreater((length + 2) ** len(house[0]), 20000)
            one = random_stretch(chance, house, length)
            self.assert_truth(True, are_alike(house, one, one))
            self.assertIsNone(parting_amounts(house, one, one))
            other = one[1:] + (("put", house[0][0]),) * 2
            for more in (other, random_stretch(chance, house, length + 1)):
                for pair in ((one, more), (more, one), ((), more), (more, more)):
                    self.assert_raises(TooMany, {"most": 20000}, are_alike, house, *pair)
                    self.assert_raises(TooMany, {"most": 20000}, parting_amounts, house, *pair)
            self.hold_parting(house, one, other[:-1], parting_amounts(house, one, other[:-1]))

    def test_unlike_only_with_many_things(self):
        # The two calls in the middle tell their order only if the last thing of a comes to them.
        calls = (("call", ("a",)), ("call", ("a", "b")))
        one = (calls[1],) * 60 + calls + (calls[0],) * 60
        other = (calls[1],) * 60 + calls[::-1] + (calls[0],) * 60
        self.assert_truth(False, are_alike(FORKED, one, other))
        amounts = parting_amounts(FORKED, one, other)
        self.hold_parting(FORKED, one, other, amounts)
        self.assertEqual(amounts["a"], 61)

    def test_two_hundred_deeds(self):
        chance = random.Random(104)
        apart = (tuple("abcdef"), tuple((kind,) for kind in "abcdef"))
        star = (tuple("abcdef"), tuple(sorted([("f",)] + [(kind, "f") for kind in "abcde"])))
        for house in [apart, star, ONE, AB, *nested_random_houses(104, 4)]:
            stretch = random_stretch(chance, house, 200)
            self.assert_truth(True, are_alike(house, stretch, stretch))
            for at in (0, 100, 199):
                amounts = parting_amounts(house, stretch, stretch[:at] + stretch[at + 1:])
                if amounts is not None:
                    self.hold_parting(house, stretch, stretch[:at] + stretch[at + 1:], amounts)
            more = parting_amounts(house, stretch, stretch + (("put", house[0][0]),))
            self.hold_parting(house, stretch, stretch + (("put", house[0][0]),), more)
            put, call = ("put", house[1][0][0]), ("call", house[1][0])
            self.assert_truth(True, are_alike(house, stretch[:100] + (put, call) + stretch[100:], stretch))


if __name__ == "__main__":
    unittest.main()
