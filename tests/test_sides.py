"""[55]: two houses side by side."""

import random
import unittest

from calledbest.alike import are_alike
from calledbest.briefs import brief_of, is_brief
from calledbest.errors import NotNested, TooMany
from calledbest.forks import is_nested
from calledbest.forms import is_house
from calledbest.sides import beside, laid, parted
from tests import plain
from tests.helpers import (
    AB, CROSSED, FORKED, ONE, CallCase, deeds_of, houses_of, nested_random_houses, random_stretch, turned_about,
)

LEFT, RIGHT = (("b",), (("b",),)), (("a",), (("a",),))
STRETCH = (("put", "a"), ("call", ("b",)), ("call", ("a",)))
# Kinds on this side come between and behind those of small houses.
OTHERS = [house for kinds in (("m",), ("n", "aa"), ("aa", "zz")) for house in houses_of(kinds)]
SMALL = [house for kinds in (("a",), ("b", "a"), ("a", "b", "c")) for house in houses_of(kinds)]


def couples():
    """Return the list of couples of houses that have no kind in common, six kinds and eight calls at most."""
    chance = random.Random(470)
    found = [(one, other) for one in chance.sample(SMALL, 30) for other in chance.sample(OTHERS, 4)]
    found = found + [(other, one) for one, other in found[::3]]
    return [(one, other) for one, other in found if len(one[1]) + len(other[1]) <= 8]


def single_calls(kinds):
    """Return the house of these kinds of which each has a call of its own."""
    return tuple(kinds), tuple(sorted((kind,) for kind in kinds))


def turned_brief(brief):
    """Return the brief with its keys in the other order."""
    return turned_about({whole: turned_about(brief[whole]) for whole in brief})


class SidesTest(CallCase):

    def test_by_hand(self):
        self.assertEqual(beside(LEFT, RIGHT), (("b", "a"), (("a",), ("b",))))
        self.assertEqual(parted(LEFT, RIGHT, STRETCH), ((("call", ("b",)),), (("put", "a"), ("call", ("a",)))))
        mine, its = (brief_of(house, part) for house, part in zip((LEFT, RIGHT), parted(LEFT, RIGHT, STRETCH)))
        self.assertEqual(laid(LEFT, RIGHT, mine, its), brief_of(beside(LEFT, RIGHT), STRETCH))

    def test_beside(self):
        nested = set()
        for one, other in couples():
            told = self.assert_steady(beside, one, other)
            self.assert_truth(True, is_house(told))
            self.assertEqual((told[0], set(told[1])), (one[0] + other[0], set(one[1]) | set(other[1])))
            self.assertEqual(is_nested(told), plain.tails_agree(one) and plain.tails_agree(other))
            nested.add(is_nested(told))
        self.assertEqual(nested, {True, False})

    def test_parted(self):
        chance = random.Random(471)
        for one, other in couples():
            for length in (0, 1, 15, 200):
                stretch = random_stretch(chance, beside(one, other), length)
                told = self.assert_steady(parted, one, other, stretch)
                self.assertEqual(told, tuple(
                    tuple(deed for deed in stretch if deed in deeds_of(house)) for house in (one, other)
                ))
                self.assertEqual(len(told[0]) + len(told[1]), length)

    def test_laid_is_the_brief_of_the_woven_stretch(self):
        chance = random.Random(472)
        met = 0
        for one, other in couples():
            if not (plain.tails_agree(one) and plain.tails_agree(other)):
                continue
            met += 1
            house = beside(one, other)
            for length in (0, 2, 12):
                stretch = random_stretch(chance, house, length)
                mine, its = parted(one, other, stretch)
                told = self.assert_steady(laid, one, other, brief_of(one, mine), turned_brief(brief_of(other, its)))
                self.assertEqual(told, brief_of(house, stretch))
                self.assert_truth(True, is_brief(house, told))
                # However they are woven.
                self.assertEqual(told, brief_of(house, mine + its))
                self.assert_truth(True, are_alike(house, stretch, its + mine))
        self.assertGreater(met, 10)

    def test_laid_by_its_sums(self):
        chance = random.Random(473)
        for one, other in couples()[::4]:
            if not (plain.tails_agree(one) and plain.tails_agree(other)):
                continue
            briefs = []
            for house in (one, other):
                begins = plain.beginning_sets(house)
                start = chance.randint(-10 ** 30, 10 ** 30)
                briefs.append({
                    whole: {part: start - len(part) for part in begins if set(part) <= set(whole)} for whole in begins
                })
            told = laid(one, other, *briefs)
            for whole in told:
                for part in told[whole]:
                    number = 0
                    for house, brief in zip((one, other), briefs):
                        mine = [tuple(kind for kind in house[0] if kind in kinds) for kinds in (whole, part)]
                        number += brief[mine[0]][mine[1]]
                    self.assertEqual(told[whole][part], number)

    def test_seven_kinds_and_nine_calls(self):
        zeros = {(): {(): 0}}
        for one, other, most in (
            (single_calls("abc"), single_calls("defg"), 6), (single_calls("abcdef"), single_calls("g"), 6),
            (FORKED, single_calls("cdefg"), 6), (houses_of(("a", "b", "c"))[-1], houses_of(("x", "y", "z"))[-1], 8),
            (houses_of(("a", "b", "c"))[-1], (("x", "y"), (("x",), ("x", "y"), ("y",))), 8),
            (houses_of(("a", "b", "c"))[-1], (("w", "x", "y", "z"), (("w", "x", "y", "z"),)), 6),
        ):
            for house, its in ((one, other), (other, one)):
                self.assert_raises(TooMany, {"most": most}, beside, house, its)
                self.assert_raises(TooMany, {"most": most}, parted, house, its, ())
                # Ahead of houses that are not nested.
                self.assert_raises(TooMany, {"most": most}, laid, house, its, zeros, zeros)
        three = (("a", "b", "c"), (("a",), ("a", "b"), ("a", "b", "c"), ("b",), ("c",)))
        self.assertEqual(len(beside(three, (("x", "y", "z"), (("x",), ("x", "y"), ("x", "y", "z"))))[1]), 8)
        self.assertEqual(len(beside(single_calls("abc"), single_calls("def"))[0]), 6)

    def test_houses_that_are_not_nested(self):
        zeros = {(): {(): 0}}
        forked = (("x", "y"), (("x",), ("x", "y")))
        for one, other in ((FORKED, ONE), (FORKED, forked), (AB, forked), (forked, CROSSED), (CROSSED, forked)):
            if set(one[0]) & set(other[0]):
                continue
            fork = (plain.forks(one) + plain.forks(other))[0]
            self.assert_raises(NotNested, {"fork": fork}, laid, one, other, zeros, zeros)

    def test_six_kinds(self):
        chance = random.Random(474)
        for one, other in ((single_calls("abc"), single_calls("def")), (single_calls("fedcb"), ONE)):
            house = beside(one, other)
            stretch = random_stretch(chance, house, 200)
            mine, its = parted(one, other, stretch)
            self.assertEqual(laid(one, other, brief_of(one, mine), brief_of(other, its)), brief_of(house, stretch))
        for one in nested_random_houses(475, 8):
            if len(one[0]) < 6 and len(one[1]) < 8:
                other = single_calls("q")
                stretch = random_stretch(chance, beside(one, other), 20)
                mine, its = parted(one, other, stretch)
                self.assertEqual(
                    laid(other, one, brief_of(other, its), brief_of(one, mine)), brief_of(beside(other, one), stretch)
                )


if __name__ == "__main__":
    unittest.main()
