"""[29]: which calls can be served together."""

import itertools
import random
import unittest

from calledbest.together import dearest, giving_for, is_lack, lack_for
from calledbest.best import best_of, is_giving
from tests import plain
from tests.helpers import (
    CROSSED, FORKED, GREATEST, ONE, CallCase, any_values, random_houses, random_log, small_houses, turned_about,
)

EXAMPLE = (("put", "x", "a"), ("put", "y", "b"), ("call", ("a", "b")), ("call", ("a",)), ("call", ("a",)))


def parts_of(calls):
    """Return the list of all ascending tuples of some of these calls."""
    return [part for size in range(len(calls) + 1) for part in itertools.combinations(calls, size)]


def lacks(log, calls):
    """Tell whether fewer puts stand in a pair with one of these calls than there are calls."""
    return len({put for put, call in plain.pairs(log) if call in calls}) < len(calls)


def short_logs(seed):
    """Return the list of houses and plain logs with a few calls."""
    chance = random.Random(seed)
    houses = small_houses() + random_houses(seed, 40)
    logs = [(house, random_log(chance, house, chance.randint(4, 9), False)) for house in houses]
    return [(house, log) for house, log in logs if len(plain.indexes_of(log, "call")) <= 6] + [(ONE, ()), (FORKED, EXAMPLE)]


class TogetherTest(CallCase):

    def test_by_hand(self):
        self.assertEqual(giving_for(FORKED, EXAMPLE, (2, 3)), {2: 1, 3: 0})
        self.assertEqual(giving_for(FORKED, EXAMPLE, ()), {})
        self.assertIsNone(giving_for(FORKED, EXAMPLE, (3, 4)))
        self.assertIsNone(lack_for(FORKED, EXAMPLE, (2, 3)))
        self.assertIsNone(lack_for(FORKED, EXAMPLE, ()))
        self.assertEqual(lack_for(FORKED, EXAMPLE, (3, 4)), (3, 4))
        self.assertIn(lack_for(FORKED, EXAMPLE, (2, 3, 4)), [(3, 4), (2, 3, 4)])
        self.assertEqual(dearest(FORKED, EXAMPLE, {2: 1, 3: 5, 4: 7}), (8, {2: 1, 4: 0}))
        self.assertEqual(lack_for(ONE, (("call", ("a",)), ("put", "x", "a")), (0,)), (0,))
        self.assertEqual(dearest(ONE, (), {}), (0, {}))

    def test_all_sets_of_calls(self):
        met = set()
        for house, log in short_logs(130):
            keys = {tuple(sorted(giving)) for giving in plain.givings(log)}
            for calls in parts_of(plain.indexes_of(log, "call")):
                giving = self.assert_steady(giving_for, house, log, calls)
                lack = self.assert_steady(lack_for, house, log, calls)
                met.add(calls in keys)
                if calls in keys:
                    self.assertIn(giving, plain.givings(log))
                    self.assertEqual(tuple(giving), calls)
                    self.assertIsNone(lack)
                else:
                    self.assertIsNone(giving)
                    self.assertIs(lack.__class__, tuple)
                    self.assertEqual(list(lack), sorted(set(lack)))
                    self.assertLessEqual(set(lack), set(calls))
                    self.assertTrue(lacks(log, lack))
                self.assert_truth(calls != () and lacks(log, calls), is_lack(house, log, calls))
        self.assertEqual(met, {True, False})

    def test_is_lack(self):
        log = (("call", ("a", "b")), ("call", ("a",)), ("put", "x", "a"), ("call", ("a",)), ("call", ("a", "b")))
        for size in range(4):
            for thing in itertools.product(range(-1, 6), repeat=size):
                right = list(thing) == sorted(set(thing)) and set(thing) <= {0, 1, 3, 4} and thing != () and lacks(log, thing)
                self.assert_truth(right, is_lack(FORKED, log, thing))
                self.assert_truth(False, is_lack(FORKED, log, list(thing)))
                self.assert_truth(False, is_lack(FORKED, log, (thing,)))
        for thing in ((False,), (True,), (0, True), (False, 1), (0, 1, None), ("a",), 0, 1, {0: 1}, (0, [1]), (10 ** 30,)):
            self.assert_truth(False, is_lack(FORKED, log, thing))
        for value in any_values():
            self.assert_truth(value == (1,) and value[0] is not True, is_lack(FORKED, log, value))
            self.assert_truth(False, is_lack(ONE, (), value))

    def test_dearest(self):
        chance = random.Random(131)
        for house, log in short_logs(131):
            calls = plain.indexes_of(log, "call")
            for worth in (lambda: 1, lambda: 0, lambda: chance.randint(0, 3), lambda: chance.randint(0, 10 ** 30)):
                worths = turned_about({call: worth() for call in calls})
                total, giving = self.assert_steady(dearest, house, log, worths)
                self.assertIn(giving, plain.givings(log))
                self.assertEqual(total, sum(worths[call] for call in giving))
                self.assertEqual(total, max(sum(worths[call] for call in other) for other in plain.givings(log)))

    def test_the_dearest_call_first(self):
        # Worths are powers of two: each call is worth more than all less dear ones.
        log = tuple(("put", name, "a") for name in "xy") + (("call", ("a",)),) * 6
        self.assertEqual(dearest(ONE, log, {index: 2 ** index for index in range(2, 8)})[0], 2 ** 7 + 2 ** 6)
        self.assertEqual(dearest(ONE, log, {index: 10 ** 30 for index in range(2, 8)})[0], 2 * 10 ** 30)

    def test_two_hundred_rows(self):
        chance = random.Random(132)
        for house in random_houses(132, 6) + [GREATEST, CROSSED]:
            log = random_log(chance, house, 200, False)
            calls = tuple(plain.indexes_of(log, "call"))
            total, giving = dearest(house, log, {call: 10 ** 30 for call in calls})
            self.assertEqual(total, best_of(house, log) * 10 ** 30)
            self.assertEqual(tuple(giving_for(house, log, tuple(giving))), tuple(giving))
            self.assertIsNone(lack_for(house, log, tuple(giving)))
            for some in (calls, calls[::2], calls[::3], calls[50:]):
                told, lack = giving_for(house, log, some), lack_for(house, log, some)
                self.assertEqual(told is None, lack is not None)
                if told is None:
                    self.assertTrue(lacks(log, lack) and set(lack) <= set(some))
                    self.assert_truth(True, is_lack(house, log, lack))
                else:
                    self.assertEqual(tuple(told), some)
                    self.assertTrue(is_giving(house, log, told))


if __name__ == "__main__":
    unittest.main()
