"""[43]: weavings of two stretches."""

import random
import unittest

from calledbest.errors import NoNumber, TooMany
from calledbest.weave import weaving_to, woven, woven_amounts, woven_range
from tests import plain
from tests.helpers import (
    AB, CROSSED, FORKED, GREATEST, ONE, CallCase, random_houses, random_stretch, small_houses, turned_about,
)

NOTHING = {"b": 0, "a": 0}
FIRST, SECOND = (("put", "a"), ("call", ("b",))), (("put", "b"), ("call", ("a", "b")))
PUT, CALL = ("put", "a"), ("call", ("a",))


def tuples_of(house, amounts, one, other):
    """Return how many different tuples can be come to, going on from one to the next, up to some beyond 20,000."""
    seen = {(0, 0, plain.numbers_of(house, amounts))}
    waiting = list(seen)
    while waiting and len(seen) <= 20001:
        mine, its, numbers = waiting.pop()
        left = dict(zip(house[0], numbers))
        for deeds, ahead in ((one[mine:mine + 1], (mine + 1, its)), (other[its:its + 1], (mine, its + 1))):
            if deeds:
                found = (*ahead, plain.numbers_of(house, plain.acted(house, deeds, left)))
                if found not in seen:
                    seen.add(found)
                    waiting.append(found)
    return len(seen)


class WeaveTest(CallCase):

    def test_by_hand(self):
        self.assertEqual(woven_amounts(AB, NOTHING, FIRST, SECOND), [(0, 0), (0, 1), (1, 0)])
        self.assertEqual(woven_range(AB, NOTHING, FIRST, SECOND, ("b",)), (0, 1))
        self.assertEqual(woven(FIRST, SECOND, (1, 0, 0, 1)), (SECOND[0], *FIRST, SECOND[1]))
        self.assertEqual(weaving_to(AB, NOTHING, FIRST, SECOND, ("a",), 1), (1, 1, 0, 0))

    def test_woven(self):
        chance = random.Random(320)
        for house in small_houses()[::4] + [GREATEST]:
            for lengths in ((0, 0), (0, 3), (3, 0), (3, 4), (100, 100)):
                one, other = (random_stretch(chance, house, length) for length in lengths)
                weaving = [0] * lengths[0] + [1] * lengths[1]
                chance.shuffle(weaving)
                told = self.assert_steady(woven, one, other, tuple(weaving))
                self.assertEqual(told, plain.woven(one, other, weaving))
                self.assertIs(told.__class__, tuple)

    def hold(self, house, amounts, one, other, ends):
        """What is told is what comes about behind all weavings: ends, tuples."""
        self.assertEqual(self.assert_steady(woven_amounts, house, amounts, one, other), sorted(set(ends)))
        for part in plain.sets(house):
            counts = {plain.count(dict(zip(house[0], end)), part) for end in ends}
            told = self.assert_steady(woven_range, house, amounts, one, other, part)
            self.assertEqual(told, (min(counts), max(counts)))
            self.assertEqual(counts, set(range(told[0], told[1] + 1)))
            self.hold_weavings((house, amounts, one, other, part), counts)

    def hold_weavings(self, arguments, counts):
        house, amounts, one, other, part = arguments
        for number in counts:
            weaving = self.assert_steady(weaving_to, *arguments, number)
            self.assertEqual(sorted(weaving), [0] * len(one) + [1] * len(other))
            self.assertIs(weaving.__class__, tuple)
            self.assertEqual(plain.count(plain.acted(house, plain.woven(one, other, weaving), amounts), part), number)
        for number in (min(counts) - 1, max(counts) + 1, -10 ** 30, 10 ** 30):
            self.assert_raises(NoNumber, {"number": number}, weaving_to, *arguments, number)

    def test_all_weavings(self):
        chance = random.Random(321)
        sizes = set()
        for house in small_houses()[::2] + random_houses(321, 12):
            for lengths in ((0, 0), (0, 4), (4, 0), (2, 3), (4, 4)):
                amounts = turned_about({kind: chance.randint(0, 1) for kind in sorted(house[0])})
                one, other = (random_stretch(chance, house, length) for length in lengths)
                ends = [
                    plain.numbers_of(house, plain.acted(house, plain.woven(one, other, weaving), amounts))
                    for weaving in plain.weavings(one, other)
                ]
                sizes.add(len(set(ends)))
                self.hold(house, amounts, one, other, ends)
        self.assertGreater(len(sizes), 4)

    def test_two_empty_stretches(self):
        for house in (ONE, GREATEST):
            amounts = {kind: 10 ** 9 for kind in house[0]}
            self.assertEqual(woven_amounts(house, amounts, (), ()), [plain.numbers_of(house, amounts)])
            self.assertEqual(woven_range(house, amounts, (), (), house[0]), (len(house[0]) * 10 ** 9,) * 2)
            self.assertEqual(woven_range(house, amounts, (), (), ()), (0, 0))
            self.assertEqual(weaving_to(house, amounts, (), (), (), 0), ())
            for number in (-1, 1):
                self.assert_raises(NoNumber, {"number": number}, weaving_to, house, amounts, (), (), (), number)

    def test_just_twenty_thousand_tuples(self):
        # Puts alone: one tuple for each place, (m + 1) * (n + 1) in all.
        one, other = (PUT,) * 99, (PUT,) * 199
        self.assertEqual(tuples_of(ONE, {"a": 0}, one, other), 20000)
        for pair in ((one, other), (other, one)):
            self.assertEqual(woven_amounts(ONE, {"a": 0}, *pair), [(298,)])
            self.assertEqual(woven_range(ONE, {"a": 0}, *pair, ("a",)), (298, 298))
            self.assertEqual(sum(weaving_to(ONE, {"a": 0}, *pair, ("a",), 298)), len(pair[1]))
        one, other = (PUT,) * 112, (PUT,) * 176
        self.assertEqual(tuples_of(ONE, {"a": 0}, one, other), 20001)
        self.hold_too_many(ONE, {"a": 0}, one, other)
        self.hold_too_many(ONE, {"a": 0}, other, one)

    def hold_too_many(self, house, amounts, one, other):
        self.assert_raises(TooMany, {"most": 20000}, woven_amounts, house, amounts, one, other)
        self.assert_raises(TooMany, {"most": 20000}, woven_range, house, amounts, one, other, house[0])
        # Ahead of a number that cannot come about.
        for number in (-1, 0, 10 ** 30):
            self.assert_raises(TooMany, {"most": 20000}, weaving_to, house, amounts, one, other, house[0], number)

    def test_as_many_tuples_as_there_are(self):
        chance = random.Random(322)
        met = set()
        for house in (ONE, AB, FORKED, CROSSED, GREATEST, *random_houses(322, 3)):
            for lengths in ((30, 30), (10, 200), (50, 60), (200, 200)):
                amounts = {kind: chance.choice([0, 1, 10 ** 9]) for kind in house[0]}
                one, other = (random_stretch(chance, house, length) for length in lengths)
                many = tuples_of(house, amounts, one, other) if lengths != (200, 200) else 40401
                met.add(many > 20000)
                if many > 20000:
                    self.hold_too_many(house, amounts, one, other)
                    continue
                ends = woven_amounts(house, amounts, one, other)
                for _ in range(5):
                    weaving = [0] * lengths[0] + [1] * lengths[1]
                    chance.shuffle(weaving)
                    behind = plain.acted(house, plain.woven(one, other, weaving), amounts)
                    self.assertIn(plain.numbers_of(house, behind), ends)
                part = chance.choice(plain.sets(house))
                least, greatest = woven_range(house, amounts, one, other, part)
                self.hold_weavings((house, amounts, one, other, part), set(range(least, greatest + 1)))
        self.assertEqual(met, {True, False})


if __name__ == "__main__":
    unittest.main()
