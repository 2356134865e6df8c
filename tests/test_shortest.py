"""[33]: shortest stretches with a brief."""

import itertools
import random
import unittest

from calledbest.alike import are_alike
from calledbest.begins import beginning_sets
from calledbest.briefs import brief_of, is_brief
from calledbest.errors import NotNested, TooMany
from calledbest.forms import is_stretch
from calledbest.shortest import shortest_alike, shortest_with
from tests import plain
from tests.helpers import (
    AB, CROSSED, FORKED, GREATEST, ONE, CallCase, deeds_of, nested_random_houses, random_houses, random_stretch,
    small_houses, turned_about,
)

EXAMPLE = (("put", "a"), ("put", "b"), ("call", ("a", "b")), ("call", ("b",)))
PUT, CALL = ("put", "a"), ("call", ("a",))


def nested_houses():
    """Return all small nested houses."""
    return [house for house in small_houses() if plain.tails_agree(house)]


def turned_brief(brief):
    """Return the brief with its keys in the other order."""
    return turned_about({whole: turned_about(brief[whole]) for whole in brief})


class ShortestTest(CallCase):

    def hold(self, house, stretch, told):
        self.assert_truth(True, is_stretch(house, told))
        self.assertTrue(plain.alike(house, stretch, told))

    def test_by_hand(self):
        self.assertEqual(shortest_alike(AB, EXAMPLE), ())
        self.assertEqual(shortest_alike(ONE, (PUT, CALL, CALL, PUT)), (CALL, PUT))
        self.assertEqual(shortest_with(ONE, brief_of(ONE, (PUT, PUT, CALL)), 1), (PUT,))
        self.assertIsNone(shortest_with(ONE, brief_of(ONE, (PUT, PUT, CALL)), 0))
        self.assertIn(shortest_alike(AB, EXAMPLE[:2]), (EXAMPLE[:2], EXAMPLE[1::-1]))

    def test_the_empty_stretch(self):
        for house in nested_houses() + nested_random_houses(170, 5):
            self.assertEqual(shortest_alike(house, ()), ())
            for most in (0, 1, 200):
                self.assertEqual(shortest_with(house, brief_of(house, ()), most), ())

    def test_by_all_stretches_of_each_length(self):
        chance = random.Random(171)
        for house in nested_houses():
            most = 3 if len(house[0]) + len(house[1]) > 5 else 4
            shortest = {}
            for length in range(most + 1):
                for stretch in plain.all_stretches(house, length):
                    shortest.setdefault(plain.act(house, stretch, most), length)
            for _ in range(8):
                stretch = random_stretch(chance, house, chance.randint(1, most))
                told = self.assert_steady(shortest_alike, house, stretch)
                self.hold(house, stretch, told)
                length = shortest[plain.act(house, stretch, most)]
                self.assertEqual(len(told), length)
                self.hold_most(house, stretch, length)

    def hold_most(self, house, stretch, length):
        """A stretch with the brief is told just if it may be so long."""
        brief = turned_brief(brief_of(house, stretch))
        for most in range(len(stretch) + 1):
            told = self.assert_steady(shortest_with, house, brief, most)
            if most < length:
                self.assertIsNone(told)
            else:
                self.hold(house, stretch, told)
                self.assertEqual(len(told), length)

    def test_stretches_that_can_be_much_shorter(self):
        chance = random.Random(172)
        for house in (ONE, AB, (("a", "b"), (("a", "b"),))):
            for _ in range(10):
                stretch = random_stretch(chance, house, 6)
                told = shortest_alike(house, stretch)
                self.hold(house, stretch, told)
                for shorter in range(len(told)):
                    for other in plain.all_stretches(house, shorter) if shorter < 4 else ():
                        self.assertFalse(plain.alike(house, stretch, other))

    def test_briefs_of_no_stretch(self):
        for house in (ONE, AB, (("b", "a"), (("a",), ("b",)))):
            begins = beginning_sets(house)
            zeros = {whole: {part: 0 for part in begins if set(part) <= set(whole)} for whole in begins}
            for wrong in (
                {**zeros, (): {(): 1}}, {**zeros, house[0]: {part: -10 ** 40 for part in zeros[house[0]]}},
                {**zeros, house[0]: {part: 3 * (len(begins) - begins.index(part)) for part in zeros[house[0]]}},
            ):
                if is_brief(house, wrong):
                    for most in (0, 1, 3):
                        self.assertIsNone(shortest_with(house, wrong, most))
        self.assertIsNone(shortest_with(ONE, {(): {(): 5}, ("a",): {(): 0, ("a",): 0}}, 43))
        self.assert_raises(TooMany, {"most": 1000}, shortest_with, ONE, {(): {(): 5}, ("a",): {(): 0, ("a",): 0}}, 44)

    def test_just_a_thousand_and_just_more(self):
        # Calls, and then puts: m * (m + 1) // 2 acts of fewer than m deeds, 990 for 44, and 1,035 for 45 deeds.
        for calls in (0, 10, 44):
            stretch = (CALL,) * calls + (PUT,) * (44 - calls)
            self.assertEqual(shortest_alike(ONE, stretch), stretch)
            self.assertEqual(shortest_alike(ONE, stretch + (PUT, CALL) * 30), stretch)
            brief = brief_of(ONE, stretch)
            for most in (44, 45, 200):
                self.assertEqual(shortest_with(ONE, brief, most), stretch)
            for most in (0, 1, 43):
                self.assertIsNone(shortest_with(ONE, brief, most))
        for calls in (0, 10, 45):
            stretch = (CALL,) * calls + (PUT,) * (45 - calls)
            self.assert_raises(TooMany, {"most": 1000}, shortest_alike, ONE, stretch)
            brief = brief_of(ONE, stretch)
            for most in (44, 45, 200):
                self.assert_raises(TooMany, {"most": 1000}, shortest_with, ONE, brief, most)
            for most in (0, 1, 43):
                self.assertIsNone(shortest_with(ONE, brief, most))

    def test_too_many_acts_of_other_houses(self):
        chance = random.Random(173)
        met = set()
        for house in [AB, (("a", "b"), (("a", "b"),)), *nested_houses()[::6], (("a", "b", "c"), (("a", "c"), ("b", "c")))]:
            counts = self.acts_of_fewer(house)
            for length in range(2, len(counts) + 2):
                stretch = random_stretch(chance, house, length)
                try:
                    told = shortest_alike(house, stretch)
                    self.assert_truth(True, are_alike(house, stretch, told))
                    self.assertLessEqual(counts[len(told)], 1000)
                    met.add(True)
                except TooMany as error:
                    self.assertEqual(error.most, 1000)
                    self.assertGreaterEqual(length, len(counts) - 1)
                    met.add(False)
            # So many puts of the kind told of last cannot be had with fewer deeds.
            puts = (("put", house[0][-1]),) * len(counts)
            brief = brief_of(house, puts)
            self.assert_raises(TooMany, {"most": 1000}, shortest_alike, house, puts)
            self.assert_raises(TooMany, {"most": 1000}, shortest_with, house, brief, 200)
            self.assertEqual(shortest_alike(house, puts[:len(counts) - 2]), puts[:len(counts) - 2])
            for most in range(len(counts)):
                if most < len(counts) - 2:
                    self.assertIsNone(shortest_with(house, brief, most))
                else:
                    self.assert_raises(TooMany, {"most": 1000}, shortest_with, house, brief, most)
        self.assertEqual(met, {True, False})

    def acts_of_fewer(self, house):
        """Return the list that has for each m how many acts the stretches of fewer than m deeds have, to the first beyond 1,000."""
        kinds = house[0]
        grid = [tuple(60 * (kind in part) for kind in kinds) for part in plain.sets(house)]
        grid.extend(itertools.product((0, 1, 2), repeat=len(kinds)))
        level, seen, counts = {tuple(grid)}, {tuple(grid)}, [0, 1]
        while counts[-1] <= 1000:
            level = {tuple(self.behind(house, deed, amounts) for amounts in act) for act in level for deed in deeds_of(house)}
            level = level - seen
            seen |= level
            counts.append(len(seen))
        return counts

    def behind(self, house, deed, amounts):
        return tuple(plain.acted(house, (deed,), dict(zip(house[0], amounts))).values())

    def test_two_hundred_deeds(self):
        self.assertEqual(shortest_alike(ONE, (PUT, CALL) * 100), ())
        self.assertEqual(shortest_alike(AB, (("put", "b"), ("call", ("b",))) * 100), ())
        apart = (tuple("abcdef"), tuple((kind,) for kind in "abcdef"))
        star = (tuple("abcdef"), tuple(sorted([("f",)] + [(kind, "f") for kind in "abcde"])))
        for house in (apart, star):
            stretch = (("put", "a"), ("call", house[1][0])) * 98 + (("call", house[1][-1]), ("put", "b"), ("put", "c"), ("put", "f"))
            told = shortest_alike(house, stretch)
            self.assertEqual(len(told), 4)
            self.assert_truth(True, are_alike(house, stretch, told))
            more = (("put", "a"),) * 200
            self.assert_raises(TooMany, {"most": 1000}, shortest_alike, house, more)
            self.assert_raises(TooMany, {"most": 1000}, shortest_with, house, brief_of(house, more), 200)
            for most in (0, 1, 2):
                self.assertIsNone(shortest_with(house, brief_of(house, more), most))

    def test_houses_that_are_not_nested(self):
        for house in [FORKED, CROSSED, GREATEST] + random_houses(174, 20):
            forks = plain.forks(house)
            if forks:
                begins = beginning_sets(house)
                zeros = {whole: {part: 0 for part in begins if set(part) <= set(whole)} for whole in begins}
                for stretch in ((), (("put", house[0][0]),) * 200):
                    self.assert_raises(NotNested, {"fork": forks[0]}, shortest_alike, house, stretch)
                for most in (0, 200):
                    self.assert_raises(NotNested, {"fork": forks[0]}, shortest_with, house, zeros, most)


if __name__ == "__main__":
    unittest.main()
