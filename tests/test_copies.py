"""[51]: copies of a log in which rows lack."""

import itertools
import random
import unittest

from calledbest.copies import apart_at, copy_of, same_told, sure_told
from calledbest.errors import TooMany
from calledbest.play import told_by
from tests import plain
from tests.helpers import (
    AB, CROSSED, GREATEST, ONE, CallCase, random_houses, random_log, small_houses,
)

LOG = (("put", "x", "a"), ("put", "y", "b"), ("call", ("a", "b")), ("call", ("b",)))


def told(log, lacks):
    """Return the dict from the indexes of the calls of a copy to what they tell, the copy played by itself."""
    left = [index for index in range(len(log)) if index not in lacks]
    return {
        index: name for index, (name, there) in zip(left, plain.played(plain.without(log, lacks))) if log[index][0] == "call"
    }


def some_lacks(chance, log, most):
    """Return LACKS of at most so many rows."""
    return tuple(sorted(chance.sample(range(len(log)), chance.randint(0, min(most, len(log))))))


class CopiesTest(CallCase):

    def test_by_hand(self):
        self.assertEqual(copy_of(LOG, (0, 3)), LOG[1:3])
        self.assertEqual(
            apart_at(AB, LOG, (), (0,)), [((), ()), (("x",), ()), (("x",), ()), (("y",), ()), ((), ())]
        )
        self.assertEqual(same_told(AB, LOG, (), (0,)), {})
        self.assertEqual(same_told(AB, LOG, (1,), (1, 3)), {2: "x"})
        self.assertEqual(sure_told(AB, LOG, 0), {2: "x", 3: "y"})
        self.assertEqual(sure_told(AB, LOG, 1), {})
        log = (("put", "x", "a"), ("call", ("b",)), ("call", ("a", "b")), ("call", ("b",)))
        self.assertEqual(sure_told(AB, log, 2), {1: None, 3: None})
        # Two things of the best kind ahead: one lack is not felt, two are.
        log = (("put", "x", "b"), ("put", "y", "a"), ("put", "z", "a"), ("put", "q", "a"), ("call", ("b",)))
        self.assertEqual([sure_told(AB, log, most) for most in (0, 1, 2)], [{4: "x"}, {}, {}])

    def test_copies(self):
        chance = random.Random(430)
        for house in small_houses()[::4] + random_houses(430, 10):
            for length in (0, 1, 12):
                log = random_log(chance, house, length)
                for lacks in ((), tuple(range(length)), some_lacks(chance, log, 12)):
                    self.assertEqual(self.assert_steady(copy_of, log, lacks), plain.without(log, lacks))

    def test_apart(self):
        chance = random.Random(431)
        met = set()
        for house in small_houses()[::2] + random_houses(431, 20):
            for length in (0, 4, 14, 50):
                log = random_log(chance, house, length)
                one, other = some_lacks(chance, log, 4), some_lacks(chance, log, 4)
                for mine, its in ((one, other), (one, ()), ((), other), (one, one), (tuple(range(length)), other)):
                    expected = []
                    for moment in range(length + 1):
                        here = plain.names_behind(plain.without(log[:moment], mine))
                        there = plain.names_behind(plain.without(log[:moment], its))
                        expected.append((tuple(sorted(here - there)), tuple(sorted(there - here))))
                        # [8]: no more names than just one of the copies has rows, up to there.
                        rows = len({index for index in set(mine) ^ set(its) if index < moment})
                        self.assertLessEqual(len(expected[-1][0]) + len(expected[-1][1]), rows)
                    self.assertEqual(self.assert_steady(apart_at, house, log, mine, its), expected)
                    met.add((len(expected[-1][0]), len(expected[-1][1])))
        self.assertGreater(len(met), 8)

    def test_same_told(self):
        chance = random.Random(432)
        met = set()
        for house in small_houses()[::2] + random_houses(432, 20):
            for length in (0, 5, 15, 60):
                log = random_log(chance, house, length)
                one, other = some_lacks(chance, log, 5), some_lacks(chance, log, 5)
                for mine, its in ((one, other), (one, one), ((), ()), (one, tuple(range(length)))):
                    both = told(log, mine), told(log, its)
                    expected = {index: both[0][index] for index in both[0] if index in both[1] and both[0][index] == both[1][index]}
                    self.assertEqual(self.assert_steady(same_told, house, log, mine, its), expected)
                    met.update(expected.values())
        self.assertIn(None, met)
        self.assertGreater(len(met), 10)

    def test_no_lacks_and_all_rows(self):
        for log in ((), LOG):
            everything = tuple(range(len(log)))
            self.assertEqual(same_told(AB, log, (), ()), told_by(AB, log))
            self.assertEqual(same_told(AB, log, (), everything), {})
            self.assertEqual(apart_at(AB, log, everything, everything), [((), ())] * (len(log) + 1))
            self.assertEqual(copy_of(log, everything), ())
        self.assertEqual(apart_at(AB, LOG, (), (0, 1, 2, 3))[2], (("x", "y"), ()))

    def test_sure_by_all_copies(self):
        chance = random.Random(433)
        sizes = set()
        for house in small_houses()[::2] + random_houses(433, 15):
            for length in (0, 3, 9):
                log = random_log(chance, house, length)
                calls = plain.indexes_of(log, "call")
                for most in (0, 1, 2):
                    lots = [lot for size in range(most + 1) for lot in itertools.combinations(range(length), size)]
                    expected = {}
                    for call in calls:
                        names = {told(log, lacks)[call] for lacks in lots if call not in lacks}
                        if len(names) == 1:
                            expected[call] = names.pop()
                    self.assertEqual(self.assert_steady(sure_told, house, log, most), expected)
                    sizes.add((most, len(expected) < len(calls)))
        self.assertEqual(len(sizes), 5)

    def test_forty_rows_and_more(self):
        chance = random.Random(434)
        for house in (ONE, AB, CROSSED, GREATEST, *random_houses(434, 2)):
            for drops in (True, False):
                log = random_log(chance, house, 40, drops)
                sure = sure_told(house, log, 2)
                names = told_by(house, log)
                self.assertTrue(set(sure.items()) <= set(names.items()))
                for _ in range(30):
                    lacks = some_lacks(chance, log, 2)
                    for index, name in told(log, lacks).items():
                        if index in sure:
                            self.assertEqual(name, sure[index])
                for length in (41, 200):
                    more = random_log(chance, house, length, drops)
                    for most in (0, 1, 2):
                        self.assert_raises(TooMany, {"most": 40}, sure_told, house, more, most)
                    self.assertEqual(same_told(house, more, (), ()), told_by(house, more))
                    self.assertEqual(len(apart_at(house, more, (3, 40), ())), length + 1)
        # Things enough for all calls but the last ones, whichever two rows lack.
        log = tuple(("put", "n" + letter, "a") for letter in "abcdefghijklmnopqrst") + (("call", ("a",)),) * 20
        self.assertEqual(sure_told(ONE, log, 0), {20 + at: "n" + letter for at, letter in enumerate("abcdefghijklmnopqrst")})
        self.assertEqual(sure_told(ONE, log, 2), {})


if __name__ == "__main__":
    unittest.main()
