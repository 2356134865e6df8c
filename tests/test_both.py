"""[49]: both wait."""

import random
import unittest

from calledbest.best import best_of
from calledbest.both import best_both, best_both_at, both_at, is_pairing, loses_both, pairing_of, played_both
from calledbest.forms import is_plain_log
from tests import plain
from tests.helpers import (
    AB, CROSSED, GREATEST, ONE, CallCase, any_values, random_houses, random_log, small_houses, turned_about,
)

HOUSE = (("a", "b"), (("a",), ("a", "b")))
LOG = (("call", ("a", "b")), ("call", ("a",)), ("put", "x", "a"), ("put", "y", "b"))


def fitting(log):
    """Return the list of the tuples (call, put) that fit each other, earlier or later."""
    return [
        (call, put)
        for call in plain.indexes_of(log, "call") for put in plain.indexes_of(log, "put") if log[put][2] in log[call][1]
    ]


def played(house, log):
    """Return what played_both is to be, by a plain walk."""
    pairing = {}
    for index, row in enumerate(log):
        waiting = [at for at in range(index) if at not in pairing and at not in pairing.values()]
        if row[0] == "put":
            calls = [at for at in waiting if log[at][0] == "call" and row[2] in log[at][1]]
            if calls:
                pairing[calls[0]] = index
        else:
            puts = [at for kind in house[0] if kind in row[1] for at in waiting if log[at][0] == "put" and log[at][2] == kind]
            if puts:
                pairing[index] = puts[0]
    return pairing


def pairings(log):
    """Return the list of all pairings."""
    found = [{}]
    for call in plain.indexes_of(log, "call"):
        puts = [put for other, put in fitting(log) if other == call]
        found = found + [{**pairing, call: put} for pairing in found for put in puts if put not in pairing.values()]
    return found


def most(log):
    """Return the greatest number of pairs."""
    beside = fitting(log)
    return plain.most_mates({
        call: [put for other, put in beside if other == call] for call in plain.indexes_of(log, "call")
    })


class BothTest(CallCase):

    def test_by_hand(self):
        self.assertEqual(both_at(HOUSE, LOG), [0, 0, 0, 1, 1])
        self.assertEqual(best_both_at(HOUSE, LOG), [0, 0, 0, 1, 2])
        self.assertEqual(played_both(HOUSE, LOG), {0: 2})
        self.assertEqual(pairing_of(HOUSE, LOG), {0: 3, 1: 2})
        self.assertEqual(best_both(HOUSE, LOG), 2)
        # Of things that wait the best kind, of one kind the first put; of calls that wait the first one.
        log = (("put", "x", "b"), ("put", "y", "a"), ("put", "z", "a"), ("call", ("a", "b")), ("call", ("a", "b")))
        self.assertEqual(played_both(HOUSE, log), {3: 1, 4: 2})
        log = (("call", ("a", "b")), ("call", ("a",)), ("call", ("a", "b")), ("put", "x", "b"), ("put", "y", "a"))
        self.assertEqual(played_both(HOUSE, log), {0: 3, 1: 4})

    def test_a_plain_walk(self):
        chance = random.Random(410)
        for house in small_houses()[::2] + random_houses(410, 25) + [GREATEST]:
            for length in (0, 1, 9, 60):
                log = random_log(chance, house, length, False)
                told = self.assert_steady(played_both, house, log)
                self.assertEqual(told, played(house, log))
                self.assert_truth(True, is_pairing(house, log, told))
                expected = [len(played(house, log[:moment])) for moment in range(length + 1)]
                self.assertEqual(self.assert_steady(both_at, house, log), expected)

    def test_best_by_all_pairings(self):
        chance = random.Random(411)
        found = set()
        for house in small_houses()[::2] + random_houses(411, 15) + [GREATEST]:
            log = random_log(chance, house, 9, False)
            expected = [max(len(pairing) for pairing in pairings(log[:moment])) for moment in range(len(log) + 1)]
            self.assertEqual(self.assert_steady(best_both_at, house, log), expected)
            self.assertEqual(best_both(house, log), expected[-1])
            told = self.assert_steady(pairing_of, house, log)
            self.assertIn(told, pairings(log))
            self.assertEqual(len(told), expected[-1])
            found.add(expected[-1])
        self.assertGreater(len(found), 3)

    def test_two_hundred_rows(self):
        chance = random.Random(412)
        for house in random_houses(412, 3) + [GREATEST, ONE, CROSSED]:
            for _ in range(2):
                log = random_log(chance, house, 200, False)
                told = best_both_at(house, log)
                for moment in (0, 1, 60, 141, 200):
                    self.assertEqual(told[moment], most(log[:moment]))
                pairing = pairing_of(house, log)
                self.assert_truth(True, is_pairing(house, log, pairing))
                self.assertEqual((len(pairing), best_both(house, log)), (told[-1], told[-1]))
                self.assertEqual(played_both(house, log), played(house, log))
                self.assertGreaterEqual(told[-1], best_of(house, log))

    def test_the_empty_log(self):
        for house in (ONE, AB, GREATEST):
            self.assertEqual((played_both(house, ()), pairing_of(house, ())), ({}, {}))
            self.assertEqual((both_at(house, ()), best_both_at(house, ()), best_both(house, ())), ([0], [0], 0))
            self.assert_truth(True, is_pairing(house, (), {}))
            self.assert_truth(False, is_pairing(house, (), {0: 0}))

    def test_is_pairing(self):
        chance = random.Random(413)
        for house in small_houses()[::5] + [GREATEST]:
            log = random_log(chance, house, 7, False)
            right = pairings(log)
            for pairing in right:
                self.assert_truth(True, is_pairing(house, log, pairing))
                self.assert_truth(True, is_pairing(house, log, turned_about(pairing)))
            for _ in range(60):
                thing = {chance.randrange(-1, 9): chance.randrange(-1, 9) for _ in range(chance.randint(1, 3))}
                self.assert_truth(thing in right, is_pairing(house, log, thing))
        log = (("put", "x", "a"), ("call", ("a",)), ("put", "y", "a"), ("call", ("a",)))
        for wrong in (
            {1: True}, {True: 0}, {1: False}, {3: "0"}, {None: 0}, {1: None}, {1: 0, 3: 0}, {0: 1}, {1: 3}, {1: 0, 4: 2},
            {1: 0, 3: True}, {(1,): 0}, {1: (0,)}, {1: [0]}, {1: {0: 0}}, [(1, 0)], ((1, 0),), (1, 0),
        ):
            self.assert_truth(False, is_pairing(ONE, log, wrong))
        for right in ({}, {1: 0}, {1: 2}, {3: 0, 1: 2}):
            self.assert_truth(True, is_pairing(ONE, log, right))
        for value in any_values():
            self.assert_truth(value == {} or value == {1: 2}, is_pairing(ONE, log, value))

    def test_what_loses(self):
        met = set()
        for house in small_houses() + random_houses(414, 30) + [GREATEST]:
            log = self.assert_steady(loses_both, house)
            common = any(set(one) & set(other) for one in house[1] for other in house[1] if one != other)
            met.add(common)
            if not common:
                self.assertIsNone(log)
                continue
            self.assert_truth(True, is_plain_log(house, log))
            self.assertEqual([row[0] for row in log], ["put", "call", "put", "call"])
            self.assertEqual((most(log[:2]), most(log)), (1, 2))
            self.assertEqual(max(len(pairing) for pairing in pairings(log) if pairing.get(1) == 0), 1)
        self.assertEqual(met, {True, False})

    def test_no_log_loses_if_calls_have_nothing_in_common(self):
        chance = random.Random(415)
        lost = set()
        for house in small_houses() + random_houses(415, 30):
            log = random_log(chance, house, 30, False)
            loses = both_at(house, log) != best_both_at(house, log)
            lost.add((loses, loses_both(house) is None))
            self.assertFalse(loses and loses_both(house) is None)
        self.assertEqual(len(lost), 3)

    def test_one_call(self):
        house = (("a", "b"), (("a", "b"),))
        self.assertIsNone(loses_both(house))
        log = (("put", "x", "b"), ("call", ("a", "b")), ("call", ("a", "b")), ("put", "y", "a"))
        self.assertEqual(played_both(house, log), {1: 0, 2: 3})


if __name__ == "__main__":
    unittest.main()
