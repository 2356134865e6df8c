"""[31], and what [6] says of houses with a crossing."""

import random
import unittest

from calledbest.best import best_of, cover_of, is_giving, giving_of
from calledbest.errors import NotCrossed
from calledbest.forms import is_plain_log
from calledbest.givers import best_first, first_loss, served_by
from calledbest.opponent import quarter_log
from tests import plain
from tests.helpers import (
    AB, CROSSED, FORKED, GREATEST, ONE, CallCase, nested_random_houses, random_giver, random_houses, small_houses,
)


class OpponentTest(CallCase):

    def hold(self, house, giver, many):
        log = self.assert_steady(quarter_log, house, giver, many)
        self.assert_truth(True, is_plain_log(house, log))
        self.assertEqual(len(log), 8 * many)
        served = [name for key, name in plain.given(house, giver, log) if name is not None]
        self.assertLessEqual(len(served), 3 * many)
        self.assertEqual(served_by(house, giver, log)[-1], len(served))
        self.assertIsNotNone(first_loss(house, giver, log))
        return log

    def test_any_giver(self):
        chance = random.Random(150)
        crossed = 0
        for house in small_houses() + random_houses(150, 40) + nested_random_houses(150, 10) + [GREATEST]:
            givers = [best_first(house)] + [random_giver(chance, house, chance.randint(1, 4)) for _ in range(2)]
            if not plain.crossings(house):
                for many in (1, 200):
                    self.assert_raises(NotCrossed, {}, quarter_log, house, givers[1], many)
                continue
            crossed += 1
            for giver in givers + [random_giver(chance, house, 2, False)]:
                for many in (1, 2, 5):
                    self.assertEqual(plain.best(self.hold(house, giver, many)), 4 * many)
        self.assertGreater(crossed, 30)

    def test_givers_of_one_mark(self):
        # What it gives of two kinds, one or the other or nothing, is all that such a giver can choose here.
        marks, gives, notes = best_first(CROSSED)
        both = (0, ("a", "b"), ("a", "b"))
        for given in ("a", "b", None):
            giver = (marks, {**gives, both: (given, 0)}, notes)
            self.assertEqual(plain.best(self.hold(CROSSED, giver, 3)), 12)

    def test_a_giver_that_takes_turns(self):
        # It gives a and b by turns, or one of them and then nothing: it serves just three of four.
        gives, notes = {}, {}
        for mark in (0, 1):
            gives.update({(mark,) + key[1:]: (given, 1 - mark) for key, (given, _) in best_first(CROSSED)[1].items()})
            gives[(mark, ("a", "b"), ("a", "b"))] = ("ab"[mark], 1 - mark)
            notes.update({(mark, kind): mark for kind in "ab"})
        log = self.hold(CROSSED, (2, gives, notes), 4)
        self.assertEqual(served_by(CROSSED, (2, gives, notes), log)[-1], 12)
        refusing = {**gives, (1, ("a", "b"), ("a", "b")): (None, 0)}
        self.hold(CROSSED, (2, refusing, notes), 4)

    def test_two_hundred(self):
        chance = random.Random(151)
        for house in (CROSSED, GREATEST, (("b", "c", "a"), (("b", "a"), ("b", "c"), ("c", "a")))):
            giver = random_giver(chance, house, 4)
            log = self.hold(house, giver, 200)
            self.assertEqual(best_of(house, log), 800)
            self.assertTrue(is_giving(house, log, giving_of(house, log)))
            self.assertEqual(sum(len(part) for part in cover_of(house, log)), 800)

    def test_houses_without_a_crossing(self):
        for house in (ONE, AB, FORKED, (("a", "b"), (("a",), ("b",)))):
            for many in (1, 2, 200):
                self.assert_raises(NotCrossed, {}, quarter_log, house, best_first(house), many)


if __name__ == "__main__":
    unittest.main()
