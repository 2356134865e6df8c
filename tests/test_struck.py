"""[32]: deeds that a stretch can do without."""

import itertools
import random
import unittest

from calledbest.alike import are_alike
from calledbest.errors import TooMany
from calledbest.struck import can_be_struck, greatest_strikes, settled, struck
from tests import plain
from tests.helpers import (
    AB, CROSSED, FORKED, GREATEST, ONE, CallCase, nested_random_houses, random_houses, random_stretch, small_houses,
)

EXAMPLE = (("put", "a"), ("put", "b"), ("call", ("a", "b")), ("call", ("b",)))
THREE = (("a", "b", "c"), (("a",), ("a", "b"), ("a", "b", "c"), ("c",)))
FOUR = (("a", "b", "c", "d"), (("a", "b"), ("a", "c"), ("a", "d")))


def greatest(lots):
    """Return the list of the lots that lie in no other one."""
    return [lot for lot in lots if not any(set(lot) < set(other) for other in lots)]


def lots_of(stretch):
    """Return the list of all lots of a stretch."""
    return [lot for size in range(len(stretch) + 1) for lot in itertools.combinations(range(len(stretch)), size)]


class StruckTest(CallCase):

    def test_by_hand(self):
        self.assertEqual(struck(EXAMPLE, (1, 2)), (EXAMPLE[0], EXAMPLE[3]))
        self.assertEqual(struck(EXAMPLE, ()), EXAMPLE)
        self.assertEqual(struck(EXAMPLE, (0, 1, 2, 3)), ())
        self.assertEqual(struck((), ()), ())
        self.assert_truth(False, can_be_struck(AB, EXAMPLE, (1, 2)))
        self.assert_truth(True, can_be_struck(AB, EXAMPLE, (0, 2)))
        self.assertEqual(greatest_strikes(AB, EXAMPLE), [(0, 1, 2, 3)])
        self.assertEqual(settled(AB, EXAMPLE), EXAMPLE)
        stretch = (("call", ("b",)), ("put", "a"), ("put", "b"), ("call", ("b",)), ("call", ("a", "b")))
        self.assertEqual(settled(AB, stretch), (("call", ("b",)),))
        call = ("call", ("a",))
        self.assertEqual(greatest_strikes(ONE, (call, ("put", "a"))), [()])
        self.assertEqual(greatest_strikes(ONE, (("put", "a"), call, call)), [(0, 1), (0, 2)])

    def test_the_empty_stretch(self):
        for house in (ONE, AB, FORKED, CROSSED, GREATEST):
            self.assert_truth(True, can_be_struck(house, (), ()))
            self.assertEqual(self.assert_steady(greatest_strikes, house, ()), [()])
            self.assertEqual(settled(house, ()), ())

    def test_struck(self):
        chance = random.Random(160)
        for length in (1, 3, 6):
            stretch = random_stretch(chance, CROSSED, length)
            for lot in lots_of(stretch):
                self.assertEqual(struck(stretch, lot), plain.without(stretch, lot))

    def hold(self, house, stretch):
        lots = plain.lots_that_can_be_struck(house, stretch)
        for lot in lots_of(stretch):
            self.assert_truth(lot in lots, can_be_struck(house, stretch, lot))
        self.assertEqual(self.assert_steady(greatest_strikes, house, stretch), sorted(greatest(lots)))
        return len(lots)

    def test_all_lots(self):
        chance = random.Random(161)
        met = 0
        for house in small_houses()[::2] + [ONE, AB, FORKED, CROSSED]:
            for length in (1, 2, 4) if len(house[0]) == 3 else (1, 3, 5):
                stretch = random_stretch(chance, house, length)
                met += self.hold(house, stretch) > 1
        self.assertGreater(met, 20)

    def test_lots_of_larger_houses(self):
        chance = random.Random(162)
        for house in random_houses(162, 6, 4) + nested_random_houses(162, 4):
            stretch = random_stretch(chance, house, 3)
            self.hold(house, stretch[:1] + (("put", house[1][0][0]),) + (("call", house[1][0]),))
            self.hold(house, stretch)

    def test_lots_of_longer_stretches(self):
        chance = random.Random(163)
        for house, length in ((ONE, 8), (AB, 7), (FORKED, 7), (CROSSED, 6)):
            for _ in range(2):
                self.hold(house, random_stretch(chance, house, length))

    def test_greatest_lots_of_different_lengths(self):
        house = (("a", "b", "c"), (("a",), ("a", "b"), ("a", "b", "c"), ("a", "c"), ("b", "c")))
        stretch = (
            ("put", "a"), ("call", ("a", "b", "c")), ("put", "b"), ("call", ("a", "b")), ("call", ("b", "c")),
            ("call", ("a", "b")), ("put", "b"),
        )
        self.assertEqual(greatest_strikes(house, stretch), [(0, 1), (0, 2, 3, 4), (0, 2, 4, 5)])
        self.hold(house, stretch)

    def test_twelve_and_thirteen_deeds(self):
        chance = random.Random(164)
        for house in (ONE, AB, FORKED, CROSSED, THREE, *nested_random_houses(164, 4)):
            stretch = random_stretch(chance, house, 12)
            told = greatest_strikes(house, stretch)
            self.assertEqual(told, sorted(greatest(told)))
            for lot in told:
                self.assert_truth(True, can_be_struck(house, stretch, lot))
                for more in itertools.combinations([at for at in range(12) if at not in lot], 2):
                    self.assert_truth(False, can_be_struck(house, stretch, tuple(sorted(lot + more))))
            for more in (stretch + stretch[:1], stretch * 2):
                self.assert_raises(TooMany, {"most": 12}, greatest_strikes, house, more)
        put, call = ("put", "a"), ("call", ("a",))
        self.assertEqual(greatest_strikes(ONE, (put, call) * 6), [tuple(range(12))])
        self.assertEqual(greatest_strikes(ONE, (call,) * 6 + (put,) * 6), [()])
        self.assertEqual(greatest_strikes(ONE, (put,) * 12), [()])

    def test_too_many_amounts(self):
        # 11 ** 4 is no more than 20,000, 12 ** 4 is; thirteen deeds are told of first.
        stretch = random_stretch(random.Random(165), FOUR, 14)
        self.assertIn(greatest_strikes(FOUR, stretch[:10])[0], lots_of(stretch[:10]))
        self.assert_truth(True, can_be_struck(FOUR, stretch[:10], ()))
        for length in (11, 12):
            self.assert_raises(TooMany, {"most": 20000}, greatest_strikes, FOUR, stretch[:length])
            self.assert_raises(TooMany, {"most": 20000}, greatest_strikes, FOUR, (("put", "a"),) * length)
        for length in (13, 14):
            self.assert_raises(TooMany, {"most": 12}, greatest_strikes, FOUR, stretch[:length])
        for length in (11, 12, 14):
            for lot in ((), (0,), tuple(range(length))):
                self.assert_raises(TooMany, {"most": 20000}, can_be_struck, FOUR, stretch[:length], lot)
        self.assert_raises(TooMany, {"most": 20000}, can_be_struck, FORKED, (("put", "a"),) * 141, ())
        self.assert_truth(True, can_be_struck(FORKED, (("put", "a"), ("call", ("a",))) * 70, tuple(range(140))))

    def test_settled(self):
        chance = random.Random(166)
        shorter = 0
        for house in small_houses() + random_houses(166, 40) + [GREATEST]:
            for length in (2, 8, 60):
                stretch = random_stretch(chance, house, length)
                told = settled(house, stretch)
                self.assertEqual(told, plain.settled(stretch))
                shorter += len(told) < length
                if len(house[0]) < 3 or plain.tails_agree(house):
                    self.assert_truth(True, are_alike(house, told, stretch))
        self.assertGreater(shorter, 100)

    def test_two_hundred_deeds(self):
        puts = [("put", kind) for kind in "ab" * 50]
        calls = [("call", (kind, "b") if kind == "a" else ("b",)) for kind in "ba" * 50]
        self.assertEqual(settled(AB, tuple(puts + calls)), ())
        self.assert_truth(True, can_be_struck(AB, tuple(puts + calls), tuple(range(200))))
        self.assert_truth(True, can_be_struck(AB, tuple(puts + calls), (99, 100)))
        self.assert_truth(False, can_be_struck(AB, tuple(puts + calls), (98, 100)))
        stretch = random_stretch(random.Random(167), AB, 200)
        self.assertEqual(settled(AB, stretch), plain.settled(stretch))
        self.assertEqual(struck(stretch, tuple(range(0, 200, 2))), stretch[1::2])


if __name__ == "__main__":
    unittest.main()
