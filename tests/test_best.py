"""[28]: what hindsight can serve."""

import itertools
import random
import unittest

from calledbest.best import best_at, best_of, cover_of, giving_of, is_cover, is_giving, needed_rows
from calledbest.losing import half_log
from calledbest.play import served_at, taken_by
from tests import plain
from tests.helpers import (
    AB, CROSSED, FORKED, GREATEST, ONE, CallCase, any_values, nested_random_houses, random_houses, random_log,
    small_houses, turned_about,
)

EXAMPLE = (("put", "x", "a"), ("put", "y", "b"), ("call", ("a", "b")), ("call", ("a",)), ("call", ("a",)))


def all_logs(house, length):
    """Return the list of all plain logs with so many rows, the names given in one way."""
    names = "abcdefgh"
    return [
        tuple(("put", names[index], deed[1]) if deed[0] == "put" else deed for index, deed in enumerate(stretch))
        for stretch in plain.all_stretches(house, length)
    ]


class BestTest(CallCase):

    def hold(self, house, log):
        """All answers for a log are those of all givings, and of leaving rows out."""
        givings = plain.givings(log)
        best = max(len(giving) for giving in givings)
        self.assertEqual(best_of(house, log), best)
        giving = self.assert_steady(giving_of, house, log)
        self.assertIn(giving, givings)
        self.assertEqual(len(giving), best)
        self.hold_cover(house, log, best)
        self.assertEqual(self.assert_steady(best_at, house, log), plain.best_moments(log))
        needed = [index for index in range(len(log)) if plain.best(log[:index] + log[index + 1:]) == best - 1]
        self.assertEqual(self.assert_steady(needed_rows, house, log), needed)

    def hold_cover(self, house, log, best):
        puts, calls = cover = self.assert_steady(cover_of, house, log)
        self.assertIs(cover.__class__, tuple)
        for part, sort in ((puts, "put"), (calls, "call")):
            self.assertIs(part.__class__, tuple)
            self.assertEqual(list(part), sorted(set(part)))
            self.assertLessEqual(set(part), set(plain.indexes_of(log, sort)))
        self.assertTrue(all(put in puts or call in calls for put, call in plain.pairs(log)))
        self.assertEqual(len(puts) + len(calls), best)

    def test_by_hand(self):
        self.assertEqual(best_of(FORKED, EXAMPLE), 2)
        self.assertEqual(best_at(FORKED, EXAMPLE), [0, 0, 0, 1, 2, 2])
        self.assertEqual(giving_of(FORKED, EXAMPLE)[2], 1)
        self.assertEqual(needed_rows(FORKED, EXAMPLE), [0, 1, 2])
        self.assertEqual(best_of(ONE, (("call", ("a",)), ("put", "x", "a"))), 0)
        self.assertEqual(giving_of(ONE, (("put", "x", "a"), ("call", ("a",)))), {1: 0})
        self.assertEqual(needed_rows(ONE, (("put", "x", "a"), ("call", ("a",)))), [0, 1])
        self.assertEqual(needed_rows(ONE, (("put", "x", "a"), ("put", "y", "a"), ("call", ("a",)))), [2])
        self.assertEqual(cover_of(ONE, (("put", "x", "a"), ("put", "y", "a"), ("call", ("a",)))), ((), (2,)))
        self.assertEqual(cover_of(ONE, (("put", "x", "a"), ("call", ("a",)), ("call", ("a",)))), ((0,), ()))

    def test_the_empty_log(self):
        for house in (ONE, AB, FORKED, CROSSED, GREATEST):
            self.hold(house, ())
            self.assertEqual(best_of(house, ()), 0)
            self.assertEqual(giving_of(house, ()), {})
            self.assertEqual(cover_of(house, ()), ((), ()))
            self.assertEqual(best_at(house, ()), [0])
            self.assertEqual(needed_rows(house, ()), [])
            self.assert_truth(True, is_giving(house, (), {}))
            self.assert_truth(True, is_cover(house, (), ((), ())))
            self.assert_truth(False, is_cover(house, (), ()))

    def test_all_short_logs(self):
        for house, most in ((ONE, 6), (AB, 4), (FORKED, 4), (CROSSED, 4)):
            for length in range(1, most + 1):
                for log in all_logs(house, length):
                    self.hold(house, log)

    def test_any_log(self):
        chance = random.Random(120)
        for house in small_houses() + random_houses(120, 60) + nested_random_houses(120, 30):
            self.hold(house, random_log(chance, house, chance.randint(5, 10), False))

    def test_puts_first(self):
        chance = random.Random(121)
        for house in random_houses(121, 40, 4) + [CROSSED, FORKED]:
            puts = [row for row in random_log(chance, house, 12, False) if row[0] == "put"][:4]
            calls = [("call", chance.choice(house[1])) for _ in range(4)]
            self.hold(house, tuple(puts + calls))

    def test_what_is_served_by_best_first(self):
        chance = random.Random(122)
        for house in small_houses() + nested_random_houses(122, 20):
            log = random_log(chance, house, 60, False)
            self.assertTrue(is_giving(house, log, taken_by(house, log)))
            served, best = served_at(house, log), best_at(house, log)
            self.assertTrue(all(one <= other for one, other in zip(served, best)))
            if plain.tails_agree(house):
                self.assertEqual(served, best)

    def test_is_giving(self):
        log = (("put", "x", "a"), ("call", ("a", "b")), ("put", "y", "b"), ("call", ("a", "b")), ("call", ("a",)))
        right = plain.givings(log)
        values = list(range(-6, 7)) + [None, True, False, "x", (0,)]
        for call, put in itertools.product(values, values):
            self.assert_truth(not isinstance(call, bool) and not isinstance(put, bool) and {call: put} in right,
                              is_giving(CROSSED, log, {call: put}))
        for calls in itertools.combinations(range(5), 2):
            for puts in itertools.product(range(5), repeat=2):
                thing = dict(zip(calls, puts))
                self.assert_truth(thing in right, is_giving(CROSSED, log, thing))
                self.assert_truth(thing in right, is_giving(CROSSED, log, turned_about(thing)))
        for giving in right:
            self.assert_truth(True, is_giving(CROSSED, log, giving))
            for wrong in (list(giving.items()), tuple(giving), {**giving, 5: 0}, {**giving, None: None}, {**giving, 3: [2]}):
                self.assert_truth(False, is_giving(CROSSED, log, wrong))
        for value in any_values():
            self.assert_truth(value == {}, is_giving(CROSSED, log, value))
            self.assert_truth(False, is_giving(CROSSED, log, {1: value} if value != 0 or value is False else {1: 2}))

    def test_true_and_false_are_no_indexes(self):
        log = (("put", "x", "a"), ("call", ("a",)))
        self.assert_truth(True, is_giving(ONE, log, {1: 0}))
        for thing in ({True: 0}, {1: False}, {True: False}):
            self.assert_truth(False, is_giving(ONE, log, thing))
        for cover in (((0,), ()), ((), (1,)), ((0,), (1,))):
            self.assert_truth(True, is_cover(ONE, log, cover))
        for cover in (((False,), ()), ((), (True,)), ((False,), (1,)), ((0,), (True,))):
            self.assert_truth(False, is_cover(ONE, log, cover))

    def test_is_cover(self):
        chance = random.Random(123)
        parts = [part for size in range(4) for part in itertools.product(range(4), repeat=size)]
        for house in (ONE, FORKED, CROSSED):
            log = random_log(chance, house, 4, False)
            pairs = plain.pairs(log)
            for puts, calls in itertools.product(parts, parts):
                right = all(put in puts or call in calls for put, call in pairs)
                for part, sort in ((puts, "put"), (calls, "call")):
                    right = right and list(part) == sorted(set(part)) and set(part) <= set(plain.indexes_of(log, sort))
                self.assert_truth(right, is_cover(house, log, (puts, calls)))
        puts, calls = cover_of(FORKED, EXAMPLE)
        for wrong in (
            [puts, calls], (list(puts), calls), (puts, list(calls)), (puts, calls, ()), (puts,), (calls, puts),
            (puts, (2, 3, 4, 5)), ((-5, 0, 1), (2, 3, 4)), ((0, 1, None), ()), (("x", "y"), (2, 3, 4)), (None, (2, 3, 4)),
        ):
            self.assert_truth(False, is_cover(FORKED, EXAMPLE, wrong))
        for value in any_values():
            self.assert_truth(False, is_cover(FORKED, EXAMPLE, value))
            self.assert_truth(value == (), is_cover(FORKED, EXAMPLE, ((0, 1), value)))

    def test_two_hundred_rows(self):
        chance = random.Random(124)
        logs = [(house, random_log(chance, house, 200, False)) for house in random_houses(124, 6) + [GREATEST, CROSSED]]
        chain = tuple(("put", "a" * number, "ab"[number % 2]) for number in range(1, 7))
        logs.append((CROSSED, chain + (("call", ("a", "b")),) * 97 + (("call", ("a",)),) * 97))
        logs.append((FORKED, half_log(FORKED, 50)))
        for house, log in logs:
            best = plain.best(log)
            self.assertEqual(best_of(house, log), best)
            giving = giving_of(house, log)
            self.assert_truth(True, is_giving(house, log, giving))
            self.assertEqual(len(giving), best)
            self.hold_cover(house, log, best)
            self.assert_truth(True, is_cover(house, log, cover_of(house, log)))
            self.assertEqual(best_at(house, log)[::20], [plain.best(log[:moment]) for moment in range(0, 201, 20)])
            needed = needed_rows(house, log)
            for index in range(0, 200, 9):
                self.assertEqual(index in needed, plain.best(log[:index] + log[index + 1:]) == best - 1)
        self.assertEqual(best_of(FORKED, half_log(FORKED, 50)), 100)
        self.assertEqual(needed_rows(FORKED, half_log(FORKED, 50)), list(range(200)))

    def test_a_hundred_calls_that_pass_on(self):
        # Each thing of b must be passed on: the last call serves the whole row of them anew.
        puts = tuple(("put", "x" + "abcdefghij"[number // 10] + "abcdefghij"[number % 10], "ab"[number % 2]) for number in range(100))
        log = puts + (("call", ("a", "b")),) * 50 + (("call", ("a",)),) * 50
        self.assertEqual(best_of(FORKED, log), 100)
        self.assertEqual(needed_rows(FORKED, log), list(range(200)))
        self.assertEqual(best_at(FORKED, log), [0] * 101 + list(range(1, 101)))


if __name__ == "__main__":
    unittest.main()
