"""[46], and what [10] says of days."""

import itertools
import random
import unittest

from calledbest.daycalls import day_forks, day_losing_log, day_orders, parts_later
from calledbest.forks import forks_of
from calledbest.orders import nested_orders
from calledbest.turns import best_days, told_days
from tests import plain, plain_days
from tests.helpers import (
    AB, CROSSED, FORKED, GREATEST, ONE, SIX, CallCase, random_houses, small_houses, turned_about,
)

SHELF = (("new", "old"), (("new", "old"),))
AGE = {"new": "old", "old": None}
BOTH = ("new", "old")
APART = (tuple("abcdef"), tuple(sorted([("a", "b"), ("a", "b", "c", "d", "e", "f"), ("f",)])))


def cases(seed, many_houses):
    """Return the list of houses with turns; words of as many turns as the couples of kinds are all that matter."""
    chance = random.Random(seed)
    found = []
    for house in small_houses()[::2] + random_houses(seed, many_houses, 4):
        for many in (0, 1, 2, 4):
            turns = plain_days.random_turns(chance, house, many)
            found.append((house, turns, {0: 0, 1: 20, 2: 7, 4: 4}[many]))
    return found


def served(told):
    """Return how many calls tell something."""
    return len([name for name in told.values() if name is not None])


class DayCallsTest(CallCase):

    def test_by_hand(self):
        self.assertEqual(parts_later(SHELF, (AGE,), "new", "old"), ((0,), BOTH))
        self.assertIsNone(parts_later(SHELF, (AGE,), "old", "new"))
        self.assertEqual(day_orders(SHELF, (AGE,)), [("old", "new")])
        self.assertEqual(day_forks(SHELF, (AGE,)), [(BOTH, "new", "old", (0,), BOTH)])
        self.assertEqual(day_forks((("old", "new"), (("old", "new"),)), (AGE,)), [])
        log = day_losing_log(SHELF, (AGE,))
        self.assertEqual(log[2:], (("call", BOTH), ("turn", 0), ("call", BOTH)))
        # The empty word: what parts now.
        self.assertEqual(parts_later(FORKED, (), "a", "b"), ((), ("a",)))
        self.assertIsNone(parts_later(FORKED, (), "b", "a"))
        self.assertIsNone(parts_later(AB, (), "a", "a"))

    def test_all_words(self):
        lengths = set()
        for house, turns, length in cases(350, 12):
            for one, other in itertools.product(house[0], repeat=2):
                told = self.assert_steady(parts_later, house, turns, one, other)
                if told is None or len(told[0]) <= length:
                    self.assertEqual(told, plain_days.parts_later(house, turns, one, other, length))
                    lengths.add(None if told is None else len(told[0]))
                else:
                    self.assertIsNone(plain_days.parts_later(house, turns, one, other, length))
                if one == other:
                    self.assertIsNone(told)
        self.assertTrue({None, 0, 1, 2} <= lengths, lengths)

    def test_kinds_that_part_behind_several_turns(self):
        # The ring brings c, d and so on to a and b, of which one call alone asks, one after the other.
        ring = dict(zip("abcdef", "fabcde"))
        house = (tuple("abcdef"), (("a",), tuple("abcdef")))
        for turns in ((ring,), ({kind: kind for kind in "abcdef"}, ring), (ring, ring, ring, ring)):
            step = turns.index(ring)
            for at, kind in enumerate("abcdef"):
                for other in "abcdef":
                    expected = ((step,) * at, ("a",)) if kind != other else None
                    self.assertEqual(parts_later(house, turns, kind, other), expected)
        # The word is the least of the shortest ones.
        turns = ({"a": "a", "b": "b"}, {"a": "b", "b": "a"}, {"a": "b", "b": "b"}, {"a": "b", "b": None})
        self.assertEqual(parts_later((("a", "b"), (("a", "b"), ("b",))), turns, "a", "b"), ((1,), ("b",)))
        self.assertEqual(parts_later((("a", "b"), (("a", "b"),)), turns, "a", "b"), ((3,), ("a", "b")))
        self.assertIsNone(parts_later((("a", "b"), (("a", "b"),)), turns[:3], "a", "b"))

    def test_words_of_six_and_more_turns(self):
        # A long way through couples: two rings of unlike lengths meet at one couple alone.
        house = (SIX, (("a",), ("f", "e", "d", "c", "b", "a")))
        rings = {"f": "e", "e": "f", "d": "c", "c": "b", "b": "a", "a": "d"}
        found = {}
        for one, other in itertools.permutations(SIX, 2):
            told = parts_later(house, (rings,), one, other)
            self.assertEqual(told, plain_days.parts_later(house, (rings,), one, other, 24))
            found[one, other] = told
        self.assertEqual(found["a", "f"], ((), ("a",)))
        self.assertIsNone(found["f", "e"])
        longest = {"a": "b", "b": "c", "c": "d", "d": "e", "e": "f", "f": None}
        later = {"a": "b", "b": "c", "c": "d", "d": "e", "e": "f", "f": "f"}
        self.assertEqual(parts_later((tuple("abcdef"), (tuple("abcdef"),)), (longest,), "a", "b"), ((0,) * 5, tuple("abcdef")))
        self.assertEqual(
            parts_later((tuple("abcdef"), (tuple("abcdef"),)), (later, longest), "a", "b"), ((0, 0, 0, 0, 1), tuple("abcdef"))
        )
        swap = {"a": "b", "b": "a", "c": "c", "d": "d", "e": "e", "f": "f"}
        ring = {"a": "b", "b": "c", "c": "d", "d": "e", "e": "f", "f": "a"}
        house = (tuple("abcdef"), (tuple("abcdef"),))
        mark = {**{kind: kind for kind in "abcdef"}, "f": None}
        for one, other in itertools.permutations("abcdef", 2):
            told = parts_later(house, (ring, swap, mark), one, other)
            self.assertEqual(told, plain_days.parts_later(house, (ring, swap, mark), one, other, 7))
            self.assertIsNotNone(told)

    def test_day_forks(self):
        met = set()
        for house, turns, length in cases(351, 12):
            expected = sorted(
                (call, kind, behind, *parts_later(house, turns, kind, behind))
                for call in house[1] for kind, behind in itertools.combinations(call, 2)
                if parts_later(house, turns, kind, behind) is not None
            )
            told = self.assert_steady(day_forks, house, turns)
            self.assertEqual(told, expected)
            met.add((len(turns), told == []))
        self.assertEqual(len(met), 8)

    def test_no_turns(self):
        for house in small_houses() + [GREATEST]:
            self.assertEqual(day_forks(house, ()) == [], forks_of(house) == [])
            self.assertEqual({fork[:3] for fork in day_forks(house, ())}, {(fork[0], *fork[2:]) for fork in forks_of(house)})
            self.assertTrue(all(fork[3] == () for fork in day_forks(house, ())))
            self.assertEqual(day_orders(house, ()), nested_orders(house))

    def test_losing_logs(self):
        for house, turns, length in cases(352, 12):
            log = self.assert_steady(day_losing_log, house, turns)
            if day_forks(house, turns) == []:
                self.assertIsNone(log)
                continue
            self.assertEqual([row[0] for row in log], ["put", "put", "call"] + ["turn"] * (len(log) - 4) + ["call"])
            self.assertEqual(plain_days.best(turns, log), 2)
            self.assertEqual(served(plain_days.told(turns, log)), 1)

    def test_no_log_loses_without_a_day_fork(self):
        # [10]: at each moment, exactly if there is no day fork.
        chance = random.Random(353)
        lost = set()
        for house, turns, length in cases(353, 10):
            forks = day_forks(house, turns)
            for _ in range(4):
                log = plain_days.random_day_log(chance, house, turns, 14)
                served_of = [
                    (served(told_days(house, turns, log[:moment])), best_days(house, turns, log[:moment]))
                    for moment in range(len(log) + 1)
                ]
                loses = any(mine < best for mine, best in served_of)
                lost.add((loses, forks == []))
                self.assertFalse(loses and forks == [])
        self.assertEqual(lost, {(True, False), (False, False), (False, True)})

    def test_day_orders(self):
        empty = set()
        for house, turns, length in cases(354, 12):
            told = self.assert_steady(day_orders, house, turns)
            expected = [
                order for order in itertools.permutations(sorted(house[0])) if day_forks(plain.turned(house, order), turns) == []
            ]
            self.assertEqual(told, expected)
            either = any(
                parts_later(house, turns, one, other) and parts_later(house, turns, other, one)
                for call in house[1] for one, other in itertools.combinations(call, 2)
            )
            self.assertEqual(told == [], either)
            empty.add(told == [])
        self.assertEqual(empty, {True, False})

    def test_six_kinds_and_eight_calls(self):
        chance = random.Random(355)
        for house in [GREATEST, APART, CROSSED, ONE] + random_houses(355, 6):
            turns = plain_days.random_turns(chance, house, 4)
            turns = tuple(turned_about(turn) for turn in turns)
            forks = self.assert_steady(day_forks, house, turns)
            for order in self.assert_steady(day_orders, house, turns)[:3]:
                self.assertEqual(day_forks(plain.turned(house, order), turns), [])
            for call, kind, behind, word, later in forks[:5]:
                self.assertIn(plain_days.kind_by(turns, kind, word), later)
                self.assertNotIn(plain_days.kind_by(turns, behind, word), later)


if __name__ == "__main__":
    unittest.main()
