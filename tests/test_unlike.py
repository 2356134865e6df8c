"""[27], and what [5] says of the number of acts."""

import unittest

from calledbest.begins import beginning_sets
from calledbest.errors import TooMany
from calledbest.forms import is_stretch
from calledbest.unlike import acts_many, unlike_stretches
from tests import plain
from tests.helpers import (
    AB, CROSSED, FORKED, GREATEST, ONE, CallCase, nested_random_houses, random_houses, small_houses,
)

THOUSAND = (("a", "b", "c"), (("a",), ("a", "b", "c"), ("a", "c"), ("b",), ("b", "c")))


class UnlikeTest(CallCase):

    def hold(self, house, many):
        """There are so many stretches of calls, and no two of them make the same of all amounts of two kinds."""
        told = self.assert_steady(unlike_stretches, house, many)
        self.assertIs(told.__class__, list)
        self.assertEqual(len(told), 2 ** many)
        for stretch in told:
            self.assertTrue(is_stretch(house, stretch))
            self.assertEqual([deed[0] for deed in stretch], ["call"] * many)
        return told

    def test_any_house(self):
        forked = 0
        for house in small_houses() + random_houses(110, 10, 4) + nested_random_houses(110, 10):
            if plain.tails_agree(house):
                for many in (0, 1, 10):
                    self.assertIsNone(unlike_stretches(house, many))
                continue
            forked += 1
            for many in (0, 1, 2, 3):
                told = self.hold(house, many)
                self.assertEqual(len({plain.act(house, stretch, many) for stretch in told}), 2 ** many)
        self.assertGreater(forked, 50)

    def test_none_and_ten(self):
        self.assertEqual(unlike_stretches(FORKED, 0), [()])
        self.assertEqual(sorted(unlike_stretches(FORKED, 1)), [(("call", ("a",)),), (("call", ("a", "b")),)])
        self.assertIsNone(unlike_stretches(ONE, 0))
        told = self.hold(FORKED, 10)
        self.assertEqual(len({plain.act(FORKED, stretch, 10) for stretch in told}), 1024)
        for house in (CROSSED, GREATEST):
            fork = plain.forks(house)[0]
            told = self.hold(house, 10)
            zeros = {kind: 0 for kind in house[0]}
            grid = [{**zeros, fork[2]: number, fork[3]: 10} for number in range(11)]
            acts = {tuple(tuple(plain.acted(house, stretch, amounts).items()) for amounts in grid) for stretch in told}
            self.assertEqual(len(acts), 1024)

    def test_more_than_ten(self):
        for house in (ONE, AB, FORKED, CROSSED, GREATEST):
            for many in (11, 12, 200, 10 ** 30):
                self.assert_raises(TooMany, {"most": 10}, unlike_stretches, house, many)

    def test_acts_by_hand(self):
        self.assertEqual([acts_many(ONE, length) for length in range(5)], [1, 2, 4, 6, 9])
        for house in small_houses() + [GREATEST]:
            self.assertEqual(acts_many(house, 0), 1)
            self.assertEqual(acts_many(house, 1), len(house[0]) + len(house[1]))

    def test_acts_of_all_stretches(self):
        for house in small_houses():
            for length in (2, 3):
                if len(house[0]) + len(house[1]) > (8, 6)[length - 2]:
                    continue
                acts = {plain.act(house, stretch, length) for stretch in plain.all_stretches(house, length)}
                self.assertEqual(acts_many(house, length), len(acts))
        for house, length in ((ONE, 9), (AB, 5), (FORKED, 5), (CROSSED, 4)):
            acts = {plain.act(house, stretch, length) for stretch in plain.all_stretches(house, length)}
            self.assertEqual(acts_many(house, length), len(acts))

    def test_acts_of_larger_houses(self):
        for house in random_houses(111, 4, 4) + nested_random_houses(111, 4):
            acts = {plain.act(house, stretch, 2) for stretch in plain.all_stretches(house, 2)}
            self.assertEqual(acts_many(house, 2), len(acts))

    def test_nested_houses_have_few_acts(self):
        for house in [ONE, AB, (("b", "a"), (("a",), ("b",))), *nested_random_houses(112, 10)]:
            sets = len(beginning_sets(house))
            for length in (0, 1, 2, 3):
                try:
                    self.assertLessEqual(acts_many(house, length), (2 * length + 2) ** (sets * sets))
                except TooMany:
                    self.assertGreater(len(house[0]), 2)

    def test_houses_that_are_not_nested_have_many(self):
        for house in (FORKED, CROSSED, THOUSAND):
            for length in range(5):
                self.assertGreaterEqual(acts_many(house, length), 2 ** length)

    def test_just_a_thousand_and_just_more(self):
        self.assertEqual(acts_many(THOUSAND, 4), 1000)
        self.assert_raises(TooMany, {"most": 1000}, acts_many, THOUSAND, 5)
        self.assertEqual(acts_many(ONE, 61), 992)
        for length in (62, 63, 200, 10 ** 30):
            self.assert_raises(TooMany, {"most": 1000}, acts_many, ONE, length)
        self.assertEqual(acts_many(FORKED, 7), 995)
        # 31 ** 2 is no more than a thousand, but the acts of eight deeds are.
        for length in (8, 30, 31, 32, 10 ** 30):
            self.assert_raises(TooMany, {"most": 1000}, acts_many, FORKED, length)

    def test_too_many_amounts_of_houses_that_are_not_nested(self):
        # 3 ** 6 is no more than a thousand, 4 ** 6 is, and the stretches of three deeds have more acts, too.
        six = (tuple("abcdef"), (("a",), tuple("abcdef")))
        acts = {plain.act(six, stretch, 2) for stretch in plain.all_stretches(six, 2)}
        self.assertEqual(acts_many(six, 2), len(acts))
        self.assert_raises(TooMany, {"most": 1000}, acts_many, six, 3)
        # Of five kinds 243 amounts are few, 1,024 are too many, however few acts there are.
        five = (tuple("abcde"), (("a",), tuple("abcde")))
        self.assertLess(acts_many(five, 2), 100)
        acts = {plain.act(five, stretch, 3) for stretch in plain.all_stretches(five, 3)}
        self.assertLess(len(acts), 1000)
        self.assert_raises(TooMany, {"most": 1000}, acts_many, five, 3)
        # A nested house has no such bound.
        whole = (tuple("abcde"), (tuple("abcde"),))
        acts = {plain.act(whole, stretch, 3) for stretch in plain.all_stretches(whole, 3)}
        self.assertEqual(acts_many(whole, 3), len(acts))


if __name__ == "__main__":
    unittest.main()
