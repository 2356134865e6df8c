"""[22], and what [5] says of exchanges."""

import itertools
import random
import unittest

from calledbest.errors import TooMany
from calledbest.exchange import exchanged_to, least_exchanged, may_change, parted_by, same_by_exchange
from calledbest.forms import is_amounts
from tests import plain
from tests.helpers import (
    AB, CROSSED, FORKED, GREATEST, ONE, CallCase, deeds_of, nested_random_houses, random_houses, random_stretch, small_houses,
)

BLOCK = (("a", "b"), (("a", "b"),))
BOTH = ("call", ("a", "b"))


def blocks(sizes):
    """Return a stretch that exchanges lead to as many stretches as the product of sizes: BOTH lets no put pass."""
    stretch = ()
    for size in sizes:
        stretch = stretch + (("put", "b"),) + (("put", "a"),) * (size - 1) + (BOTH,)
    return stretch


class ExchangeTest(CallCase):

    def test_may_change_by_hand(self):
        self.assert_truth(True, may_change(AB, ("put", "a"), ("put", "b")))
        self.assert_truth(True, may_change(AB, ("put", "a"), ("put", "a")))
        self.assert_truth(True, may_change(AB, ("put", "a"), ("call", ("b",))))
        self.assert_truth(False, may_change(AB, ("put", "b"), ("call", ("b",))))
        self.assert_truth(False, may_change(AB, ("call", ("a", "b")), ("put", "b")))
        self.assert_truth(True, may_change(AB, ("call", ("b",)), ("put", "a")))
        self.assert_truth(True, may_change(AB, ("call", ("b",)), ("call", ("a", "b"))))
        self.assert_truth(False, may_change(FORKED, ("call", ("a",)), ("call", ("a", "b"))))
        self.assert_truth(False, may_change(FORKED, ("call", ("a", "b")), ("call", ("a",))))
        self.assert_truth(True, may_change(FORKED, ("call", ("a", "b")), ("call", ("a", "b"))))

    def test_may_change_and_parted_by(self):
        for house in small_houses() + random_houses(60, 6, 4):
            for one, other in itertools.product(deeds_of(house), repeat=2):
                alike = plain.alike(house, (one, other), (other, one))
                self.assert_truth(alike, may_change(house, one, other))
                amounts = self.assert_steady(parted_by, house, one, other)
                if alike:
                    self.assertIsNone(amounts)
                    continue
                self.assertTrue(is_amounts(house, amounts))
                behind = [plain.acted(house, deeds, amounts) for deeds in ((one, other), (other, one))]
                self.assertNotEqual(behind[0], behind[1])

    def test_calls_of_six_kinds(self):
        for house in random_houses(61, 30) + [GREATEST]:
            forks = plain.forks(house)
            for one, other in itertools.product(house[1], repeat=2):
                told = may_change(house, ("call", one), ("call", other))
                self.assert_truth(not any(fork[:2] in ((one, other), (other, one)) for fork in forks), told)

    def test_a_house_is_nested_if_all_its_calls_may_change(self):
        for house in small_houses() + nested_random_houses(62, 20):
            calls = [("call", call) for call in house[1]]
            changing = [may_change(house, one, other) for one, other in itertools.product(calls, repeat=2)]
            self.assertEqual(all(changing), plain.tails_agree(house))

    def test_exchanged_to_by_hand(self):
        self.assertEqual(exchanged_to(AB, ()), [()])
        self.assertEqual(exchanged_to(ONE, (("put", "a"),) * 3), [(("put", "a"),) * 3])
        self.assertEqual(exchanged_to(ONE, (("put", "a"), ("call", ("a",)))), [(("put", "a"), ("call", ("a",)))])
        put, call, last = ("put", "a"), ("call", ("b",)), ("call", ("a", "b"))
        self.assertEqual(exchanged_to(AB, (put, call, last)), [(call, put, last), (put, last, call), (put, call, last)])

    def test_all_exchanges(self):
        chance = random.Random(63)
        for house in small_houses()[::4] + random_houses(63, 6, 4) + [AB, FORKED, CROSSED]:
            for length in (1, 2, 4, 5):
                stretch = random_stretch(chance, house, length)
                expected = plain.exchanged_to(house, stretch)
                self.assertEqual(self.assert_steady(exchanged_to, house, stretch), expected)
                self.assertEqual(least_exchanged(house, stretch), expected[0])
                others = list(itertools.permutations(stretch))
                for other in chance.sample(others, min(10, len(others))) + [random_stretch(chance, house, length), ()]:
                    self.assert_truth(other in expected, same_by_exchange(house, stretch, other))

    def test_what_exchanges_lead_to_is_alike(self):
        chance = random.Random(64)
        for house in [AB, FORKED, CROSSED] + small_houses()[-5:]:
            stretch = random_stretch(chance, house, 5)
            for other in exchanged_to(house, stretch):
                self.assertTrue(plain.alike(house, stretch, other))

    def test_just_two_thousand_and_just_more(self):
        for sizes in ((2000 // 40, 40), (20, 10, 10), (5, 5, 5, 4, 2, 2), (125, 2, 2, 2, 2)):
            told = exchanged_to(BLOCK, blocks(sizes))
            self.assertEqual(len(told), 2000)
            self.assertEqual(told, sorted(set(told)))
            self.assertEqual(told[0], least_exchanged(BLOCK, blocks(sizes)))
        for sizes in ((3, 23, 29), (20, 10, 11), (26, 77), (2,) * 11, (100, 100)):
            self.assert_raises(TooMany, {"most": 2000}, exchanged_to, BLOCK, blocks(sizes))
            self.assertTrue(same_by_exchange(BLOCK, blocks(sizes), least_exchanged(BLOCK, blocks(sizes))))
        self.assertEqual(len(exchanged_to(BLOCK, blocks((29, 23)))), 667)

    def test_the_least_of_very_many(self):
        kinds = tuple("abcdef")
        apart = (kinds, tuple((kind,) for kind in kinds))
        calls = [("call", (kind,)) for kind in kinds]
        puts = [("put", kind) for kind in kinds]
        stretch = tuple(puts[::-1]) * 16 + tuple(calls[::-1]) * 17
        # Here each kind goes its own way: all its puts first, then all its calls.
        least = least_exchanged(apart, stretch)
        self.assertEqual(sorted(least), sorted(stretch))
        self.assertEqual(least, self.least_by_ways(apart, stretch))
        self.assert_raises(TooMany, {"most": 2000}, exchanged_to, apart, stretch)
        self.assert_truth(True, same_by_exchange(apart, stretch, least))
        swapped = stretch[:95] + (stretch[96], stretch[95]) + stretch[97:]
        self.assertEqual({stretch[95], stretch[96]}, {("put", "a"), ("call", ("f",))})
        self.assert_truth(True, same_by_exchange(apart, stretch, swapped))
        self.assert_truth(False, same_by_exchange(apart, stretch, stretch[1:] + stretch[:1]))
        self.assert_truth(False, same_by_exchange(apart, stretch, stretch[:-1]))

    def least_by_ways(self, house, stretch):
        """Return the least weaving of what the stretch does with each kind, of a house with calls of one kind each."""
        ways = [[deed for deed in stretch if kind in (deed[1], deed[1][0])] for kind in house[0]]
        least = []
        while any(ways):
            way = min((way for way in ways if way), key=lambda way: way[0])
            least.append(way.pop(0))
        return tuple(least)

    def test_two_hundred_deeds_after_many_exchanges(self):
        chance = random.Random(65)
        for house in random_houses(65, 8) + [GREATEST, AB]:
            stretch = random_stretch(chance, house, 200)
            other = list(stretch)
            for _ in range(2000):
                at = chance.randrange(199)
                if may_change(house, other[at], other[at + 1]):
                    other[at], other[at + 1] = other[at + 1], other[at]
            least = least_exchanged(house, stretch)
            self.assertEqual(least_exchanged(house, tuple(other)), least)
            self.assertEqual(least_exchanged(house, least), least)
            self.assertLessEqual(least, min(stretch, tuple(other)))
            self.assert_truth(True, same_by_exchange(house, stretch, tuple(other)))


if __name__ == "__main__":
    unittest.main()
