"""[30], and what [6] says of givers."""

import random
import unittest

from calledbest.best import best_at
from calledbest.givers import best_first, first_loss, first_refusal, given_by, is_giver, served_by
from calledbest.houses import reordered
from calledbest.losing import losing_log
from calledbest.play import served_at, told_by
from tests import plain
from tests.helpers import (
    AB, CROSSED, FORKED, GREATEST, ONE, CallCase, any_values, nested_random_houses, random_giver, random_houses,
    random_log, small_houses, turned_about,
)


def changed(table, key, value):
    """Return the dict with another value for a key."""
    return {**table, key: value}


def less(table, key):
    """Return the dict without a key."""
    return {other: table[other] for other in table if other != key}


class GiversTest(CallCase):

    def test_best_first_by_hand(self):
        gives = {
            (0, ("a", "b"), ()): (None, 0), (0, ("a", "b"), ("a",)): ("a", 0),
            (0, ("a", "b"), ("a", "b")): ("a", 0), (0, ("a", "b"), ("b",)): ("b", 0),
            (0, ("b",), ()): (None, 0), (0, ("b",), ("b",)): ("b", 0),
        }
        self.assertEqual(self.assert_steady(best_first, AB), (1, gives, {(0, "a"): 0, (0, "b"): 0}))

    def test_best_first_gives_what_calls_take(self):
        chance = random.Random(140)
        for house in small_houses() + random_houses(140, 20) + [GREATEST]:
            giver = self.assert_steady(best_first, house)
            self.assert_truth(True, is_giver(house, giver))
            self.assertIsNone(first_refusal(house, giver))
            for length in (0, 6, 40):
                log = random_log(chance, house, length, False)
                self.assertEqual(self.assert_steady(given_by, house, giver, log), told_by(house, log))
                self.assertEqual(self.assert_steady(served_by, house, giver, log), served_at(house, log))
                if plain.tails_agree(house):
                    self.assertIsNone(first_loss(house, giver, log))
            if not plain.tails_agree(house):
                self.assertEqual(first_loss(house, giver, losing_log(house)), 4)

    def test_a_giver_by_hand(self):
        # With mark 1, behind a put of b, it gives nothing once, and then the worst.
        house = (("a", "b"), (("a", "b"),))
        call = ("a", "b")
        gives = {
            (0, call, ()): (None, 0), (0, call, ("a",)): ("a", 0), (0, call, ("b",)): ("b", 0), (0, call, call): ("b", 0),
            (1, call, ()): (None, 1), (1, call, ("a",)): (None, 0), (1, call, ("b",)): (None, 0), (1, call, call): (None, 0),
        }
        giver = (2, gives, {(0, "a"): 0, (0, "b"): 1, (1, "a"): 1, (1, "b"): 1})
        self.assert_truth(True, is_giver(house, giver))
        log = (("put", "x", "a"), ("put", "y", "b"), ("put", "z", "b")) + (("call", call),) * 5
        self.assertEqual(given_by(house, giver, log), {3: None, 4: "y", 5: "z", 6: "x", 7: None})
        self.assertEqual(served_by(house, giver, log), [0, 0, 0, 0, 0, 1, 2, 3, 3])
        self.assertEqual(first_loss(house, giver, log), 4)
        self.assertEqual(first_refusal(house, giver), (1, call, ("a",)))
        self.assertIsNone(first_loss(house, giver, log[:1] + log[3:4]))

    def test_the_empty_log_and_the_last_moment(self):
        for house in (ONE, FORKED, GREATEST):
            giver = best_first(house)
            self.assertEqual(given_by(house, giver, ()), {})
            self.assertEqual(served_by(house, giver, ()), [0])
            self.assertIsNone(first_loss(house, giver, ()))
        refusing = (1, {key: (None, 0) for key in best_first(ONE)[1]}, {(0, "a"): 0})
        log = (("call", ("a",)), ("put", "x", "a"), ("put", "y", "a"), ("call", ("a",)))
        self.assertEqual(first_loss(ONE, refusing, log), 4)
        self.assertIsNone(first_loss(ONE, refusing, log[:3]))
        self.assertEqual(first_refusal(ONE, refusing), (0, ("a",), ("a",)))

    def test_any_giver(self):
        chance = random.Random(141)
        lost = 0
        for house in small_houses() + random_houses(141, 30, 4) + nested_random_houses(141, 10):
            giver = random_giver(chance, house, chance.choice([1, 1, 2, 3, 4]), chance.choice([True, False]))
            for length in (5, 30):
                log = random_log(chance, house, length, False)
                told = plain.given(house, giver, log)
                calls = plain.indexes_of(log, "call")
                names = {index: told[index][1] for index in calls}
                self.assertEqual(self.assert_steady(given_by, house, giver, log), names)
                served = [len([name for name in names if name < moment and names[name]]) for moment in range(length + 1)]
                self.assertEqual(self.assert_steady(served_by, house, giver, log), served)
                best = plain.best_moments(log)
                losses = [moment for moment in range(length + 1) if served[moment] < best[moment]]
                self.assertEqual(first_loss(house, giver, log), losses[0] if losses else None)
                lost += len(losses) > 0
        self.assertGreater(lost, 30)

    def test_first_refusal(self):
        chance = random.Random(142)
        for house in small_houses()[::3] + random_houses(142, 20):
            for refuses in (True, False):
                giver = random_giver(chance, house, chance.choice([1, 2, 4]), refuses)
                keys = sorted(key for key in giver[1] if key[2] and giver[1][key][0] is None)
                self.assertEqual(first_refusal(house, giver), keys[0] if keys else None)
                turned = (giver[0], turned_about(giver[1]), turned_about(giver[2]))
                self.assertEqual(first_refusal(house, turned), keys[0] if keys else None)
                self.assert_truth(True, is_giver(house, turned))

    def test_who_never_refuses_serves_half(self):
        chance = random.Random(143)
        for house in small_houses()[::2] + random_houses(143, 20, 4):
            giver = random_giver(chance, house, 3, False)
            log = random_log(chance, house, 60, False)
            for served, best in zip(served_by(house, giver, log), best_at(house, log)):
                self.assertGreaterEqual(2 * served, best)

    def test_some_giver_serves_the_best_without_a_crossing(self):
        chance = random.Random(144)
        for house in small_houses() + random_houses(144, 40):
            orders = plain.nested_orders(house)
            if orders:
                turned = reordered(house, orders[0])
                log = random_log(chance, turned, 60, False)
                self.assertIsNone(first_loss(turned, best_first(turned), log))

    def test_is_giver(self):
        chance = random.Random(145)
        for house in (ONE, AB, FORKED, CROSSED):
            for marks in (1, 2, 4):
                giver = random_giver(chance, house, marks)
                self.assert_truth(True, is_giver(house, giver))
                for wrong in self.wrong_givers(house, giver):
                    self.assert_truth(False, is_giver(house, wrong))
            for value in any_values():
                self.assert_truth(False, is_giver(house, value))
        self.assert_truth(False, is_giver(ONE, best_first(AB)))
        self.assert_truth(False, is_giver(AB, best_first(FORKED)))

    def wrong_givers(self, house, giver):
        marks, gives, notes = giver
        yield from ([marks, gives, notes], (marks, gives), (marks, gives, notes, notes), (marks, notes, gives))
        for wrong in (0, -1, marks + 1, marks - 1, True, False, None, "1", 101, 10 ** 30):
            if wrong != marks or wrong is True:
                yield (wrong, gives, notes)
        for key in gives:
            mark, call, there = key
            outside = [kind for kind in house[0] if kind not in there] + ["zz", 0, True, (), ["a"], {}]
            for gift in (
                [None, 0], (None,), (None, 0, 0), None, (None, marks), (None, -1), (None, True), (None, False), (None, None),
                *[(kind, 0) for kind in outside],
            ):
                yield (marks, changed(gives, key, gift), notes)
            yield (marks, less(gives, key), notes)
            for other in (
                (marks, call, there), (-1, call, there), (None, call, there), (mark, ("zz",), there), (mark, there),
                (mark, call, there, there), (mark, call, there[::-1] + ("zz",)), (mark, call, call + call), (mark, call, "a"),
                "a", None, 0,
            ):
                yield (marks, changed(less(gives, key), other, gives[key]), notes)
                yield (marks, changed(gives, other, gives[key]), notes)
            if mark in (0, 1):
                yield (marks, changed(less(gives, key), (mark == 1, call, there), gives[key]), notes)
        for key in notes:
            for mark in (marks, -1, None, True, False, "0", (0,), [0]):
                yield (marks, gives, changed(notes, key, mark))
            yield (marks, gives, less(notes, key))
            for other in ((marks, key[1]), (key[0], "zz"), (key[0],), (key[0], key[1], 0), key[1], None):
                yield (marks, gives, changed(less(notes, key), other, 0))
                yield (marks, gives, changed(notes, other, 0))
            if key[0] in (0, 1):
                yield (marks, gives, changed(less(notes, key), (key[0] == 1, key[1]), 0))
        yield (marks, list(gives.items()), notes)
        yield (marks, gives, list(notes.items()))
        yield (marks, {}, {})
        yield (0, {}, {})

    def test_a_hundred_marks(self):
        chance = random.Random(146)
        for house in (ONE, CROSSED, GREATEST):
            giver = random_giver(chance, house, 100)
            self.assert_truth(True, is_giver(house, giver))
            marks, gives, notes = random_giver(chance, house, 101)
            self.assert_truth(False, is_giver(house, (marks, gives, notes)))
            self.assert_truth(False, is_giver(house, (100, gives, notes)))
            key = max(giver[1])
            self.assert_truth(False, is_giver(house, (100, changed(giver[1], key, (None, 100)), giver[2])))
            self.assert_truth(True, is_giver(house, (100, changed(giver[1], key, (None, 99)), giver[2])))

    def test_two_hundred_rows(self):
        chance = random.Random(147)
        for house in random_houses(147, 6) + [GREATEST, CROSSED]:
            giver = random_giver(chance, house, 4)
            log = random_log(chance, house, 200, False)
            told = plain.given(house, giver, log)
            names = {index: told[index][1] for index in plain.indexes_of(log, "call")}
            self.assertEqual(given_by(house, giver, log), names)
            self.assertEqual(served_by(house, giver, log)[-1], len([name for name in names.values() if name]))


if __name__ == "__main__":
    unittest.main()
