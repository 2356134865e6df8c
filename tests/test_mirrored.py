"""[48]: calls wait, things go at once."""

import itertools
import random
import unittest

from calledbest.errors import TooMany
from calledbest.forms import is_house, is_plain_log
from calledbest.mirrored import (
    best_preference, best_waiting, best_waiting_at, mirrored, mirrored_log, played_waiting, waiting_crossing,
)
from calledbest.play import taken_by
from tests import plain
from tests.helpers import (
    AB, CROSSED, FORKED, GREATEST, ONE, CallCase, random_houses, random_log, small_houses,
)

NAMES = ["p", "q", "zzzzzz", "a", "call", "m", "put", "b"]
HOUSE = (("a", "b"), (("a",), ("a", "b")))
PREFERENCE = [(("a", "b"), "p"), (("a",), "q")]
LOG = (("call", ("a", "b")), ("call", ("a",)), ("put", "x", "a"), ("put", "y", "b"))
SEVEN = (tuple("abc"), (("a",), ("a", "b"), ("a", "b", "c"), ("a", "c"), ("b",), ("b", "c"), ("c",)))
NESTED_SEVEN = (tuple("abcdef"), tuple(sorted([tuple("abcdef"[:at]) for at in range(1, 7)] + [tuple("ab") + ("f",)])))


def random_preference(chance, house):
    """Return any preference."""
    calls = list(house[1])
    chance.shuffle(calls)
    return list(zip(calls, chance.sample(NAMES, len(calls))))


def played(preference, log):
    """Return what played_waiting is to be, by a plain walk."""
    waiting, served = [], {}
    for index, row in enumerate(log):
        if row[0] == "call":
            waiting.append((index, row[1]))
            continue
        served[index] = None
        for call, name in preference:
            here = [at for at, other in waiting if other == call and row[2] in call]
            if here:
                served[index] = here[0]
                waiting.remove((here[0], call))
                break
    return served


def most_serving(log):
    """Return how many puts can serve at most, all ways tried."""
    found = [()]
    for put in plain.indexes_of(log, "put"):
        calls = [call for call in plain.indexes_of(log[:put], "call") if log[put][2] in log[call][1]]
        found = found + [(*served, call) for served in found for call in calls if call not in served]
    return max(len(served) for served in found)


def most_by_chains(log):
    """Return how many puts can serve at most, chains of other puts making room."""
    return plain.most_mates({
        put: [call for call in plain.indexes_of(log[:put], "call") if log[put][2] in log[call][1]]
        for put in plain.indexes_of(log, "put")
    })


def crossings(house):
    """Return the list of all tuples of [48], each combination tried."""
    kinds, calls = house
    return [
        (one, other, kind, mine, its)
        for one, other, kind, mine, its in itertools.product(calls, calls, kinds, kinds, kinds)
        if one < other and kind in one and mine in one and its not in one
        and kind in other and its in other and mine not in other
    ]


class MirroredTest(CallCase):

    def test_by_hand(self):
        self.assertEqual(mirrored(HOUSE, PREFERENCE), (("p", "q"), (("p",), ("p", "q"))))
        self.assertEqual(played_waiting(HOUSE, PREFERENCE, LOG), {2: 0, 3: None})
        self.assertEqual(played_waiting(HOUSE, PREFERENCE[::-1], LOG), {2: 1, 3: 0})
        self.assertEqual(best_waiting(HOUSE, LOG), 2)
        self.assertEqual(best_waiting_at(HOUSE, LOG), [0, 0, 0, 1, 2])
        self.assertEqual(best_preference(HOUSE), [("a",), ("a", "b")])
        self.assertIsNone(waiting_crossing(HOUSE))
        house = (("a", "b", "c"), (("a", "b"), ("a", "c")))
        self.assertEqual(waiting_crossing(house), (("a", "b"), ("a", "c"), "a", "b", "c"))
        self.assertIsNone(best_preference(house))
        # Equal SETS of names stand once.
        self.assertEqual(mirrored((("a", "b"), (("a", "b"),)), [(("a", "b"), "q")]), (("q",), (("q",),)))

    def test_the_mirrored_house(self):
        chance = random.Random(400)
        for house in small_houses() + random_houses(400, 25):
            preference = random_preference(chance, house)
            if len(house[1]) > 6:
                continue
            told = self.assert_steady(mirrored, house, preference)
            self.assert_truth(True, is_house(told))
            self.assertEqual(told[0], tuple(name for call, name in preference))
            names = {call: name for call, name in preference}
            expected = {
                frozenset(names[call] for call in house[1] if kind in call) for kind in house[0]
            }
            self.assertEqual({frozenset(call) for call in told[1]}, expected)
            self.assertEqual(len(told[1]), len(expected))

    def test_the_mirrored_log_does_the_same(self):
        chance = random.Random(401)
        met = set()
        for house in small_houses()[::2] + random_houses(401, 25):
            if len(house[1]) > 6:
                continue
            for length in (0, 3, 12, 40):
                preference = random_preference(chance, house)
                log = random_log(chance, house, length, False)
                other = self.assert_steady(mirrored_log, house, preference, log)
                house_of = mirrored(house, preference)
                self.assert_truth(True, is_plain_log(house_of, other))
                for row, row_of in zip(log, other):
                    if row[0] == "call":
                        self.assertEqual(row_of[::2], ("put", {call: name for call, name in preference}[row[1]]))
                    else:
                        self.assertEqual(row_of, ("call", tuple(name for call, name in preference if row[2] in call)))
                taken = taken_by(house_of, other)
                told = self.assert_steady(played_waiting, house, preference, log)
                self.assertEqual(told, {put: taken.get(put) for put in plain.indexes_of(log, "put")})
                met.update(told.values())
        self.assertIn(None, met)
        self.assertGreater(len(met), 10)

    def test_a_plain_walk(self):
        chance = random.Random(402)
        for house in small_houses()[::2] + random_houses(402, 20) + [GREATEST, SEVEN, NESTED_SEVEN]:
            for length in (0, 1, 10, 200):
                preference = random_preference(chance, house)
                log = random_log(chance, house, length, False)
                self.assertEqual(self.assert_steady(played_waiting, house, preference, log), played(preference, log))

    def test_best_by_all_ways(self):
        chance = random.Random(403)
        found = set()
        for house in small_houses()[::3] + random_houses(403, 15) + [GREATEST, SEVEN]:
            log = random_log(chance, house, 11, False)
            expected = [most_serving(log[:moment]) for moment in range(len(log) + 1)]
            self.assertEqual(self.assert_steady(best_waiting_at, house, log), expected)
            self.assertEqual(best_waiting(house, log), expected[-1])
            found.add(expected[-1])
        self.assertGreater(len(found), 3)

    def test_two_hundred_rows(self):
        chance = random.Random(404)
        for house in random_houses(404, 3) + [GREATEST, ONE, CROSSED]:
            log = random_log(chance, house, 200, False)
            told = best_waiting_at(house, log)
            for moment in (0, 1, 50, 133, 200):
                self.assertEqual(told[moment], most_by_chains(log[:moment]))
            self.assertEqual(best_waiting(house, log), told[-1])
        calls, puts = (("call", ("a",)),) * 100, tuple(("put", "n" + chr(97 + at // 26) + chr(97 + at % 26), "a") for at in range(100))
        self.assertEqual(best_waiting(ONE, calls + puts), 100)
        self.assertEqual(best_waiting(ONE, puts + calls), 0)
        self.assertEqual(played_waiting(ONE, [(("a",), "q")], calls + puts), {100 + at: at for at in range(100)})

    def test_the_empty_log(self):
        for house in (ONE, AB, GREATEST, SEVEN):
            preference = list(zip(house[1], NAMES))
            self.assertEqual(played_waiting(house, preference, ()), {})
            self.assertEqual((best_waiting(house, ()), best_waiting_at(house, ())), (0, [0]))
        self.assertEqual(mirrored_log(ONE, [(("a",), "q")], ()), ())

    def test_six_calls_and_seven(self):
        six = (SEVEN[0], SEVEN[1][:6])
        preference = list(zip(six[1], NAMES))
        self.assertEqual(mirrored(six, preference)[0], tuple(NAMES[:6]))
        self.assertEqual(len(mirrored_log(six, preference, (("call", ("a",)),))), 1)
        for house in (SEVEN, NESTED_SEVEN, GREATEST):
            preference = list(zip(house[1], NAMES))
            self.assert_raises(TooMany, {"most": 6}, mirrored, house, preference)
            for log in ((), (("call", house[1][0]), ("put", "x", house[0][0]))):
                self.assert_raises(TooMany, {"most": 6}, mirrored_log, house, preference, log)
                self.assertEqual(len(played_waiting(house, preference, log)), len(log) // 2)
                self.assertEqual(len(best_waiting_at(house, log)), len(log) + 1)

    def test_waiting_crossings(self):
        met = set()
        for house in small_houses() + random_houses(405, 30) + [GREATEST, SEVEN, NESTED_SEVEN, FORKED, CROSSED]:
            found = crossings(house)
            told = self.assert_steady(waiting_crossing, house)
            self.assertEqual(told, min(found) if found else None)
            if len(house[1]) <= 6:
                # A crossing of the mirrored house, in any order of it.
                preference = list(zip(house[1], NAMES))
                self.assertEqual(plain.crossings(mirrored(house, preference)) == [], told is None)
            met.add(told is None)
        self.assertEqual(met, {True, False})

    def test_best_preferences(self):
        chance = random.Random(406)
        for house in small_houses() + random_houses(406, 30) + [GREATEST, SEVEN, NESTED_SEVEN]:
            told = self.assert_steady(best_preference, house)
            self.assertEqual(told is None, crossings(house) != [])
            if told is None:
                continue
            self.assertEqual(sorted(told), list(house[1]))
            preference = list(zip(told, chance.sample(NAMES, len(told))))
            if len(told) <= 6:
                self.assertTrue(plain.tails_agree(mirrored(house, preference)))
            for length in (8, 30):
                log = random_log(chance, house, length, False)
                for moment, best in enumerate(best_waiting_at(house, log)):
                    served = played_waiting(house, preference, log[:moment])
                    self.assertEqual(len([call for call in served.values() if call is not None]), best)

    def test_no_preference_is_best_with_a_crossing(self):
        for house in small_houses():
            if waiting_crossing(house) is None or len(house[1]) > 4:
                continue
            one, other, kind, mine, its = waiting_crossing(house)
            for order in itertools.permutations(house[1]):
                preference = list(zip(order, NAMES))
                lost = []
                for asked in (mine, its):
                    log = (("call", one), ("call", other), ("put", "x", kind), ("put", "y", asked))
                    served = played_waiting(house, preference, log)
                    lost.append(best_waiting(house, log) - len([call for call in served.values() if call is not None]))
                self.assertEqual(sorted(lost), [0, 1])


if __name__ == "__main__":
    unittest.main()
