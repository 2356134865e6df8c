"""[17]: logs played from an empty store."""

import random
import unittest

from calledbest.play import amounts_at, served_at, taken_by, there_at, told_by
from tests import plain
from tests.helpers import AB, CROSSED, FORKED, GREATEST, ONE, CallCase, random_houses, random_log

LOG = (
    ("call", ("a", "b")), ("put", "x", "b"), ("drop", "y"), ("put", "y", "a"), ("put", "z", "b"), ("call", ("a", "b")),
    ("drop", "x"), ("drop", "x"), ("call", ("b",)), ("call", ("b",)),
)


class PlayTest(CallCase):

    def test_by_hand(self):
        self.assertEqual(told_by(AB, LOG), {0: None, 5: "y", 8: "z", 9: None})
        self.assertEqual(taken_by(AB, LOG), {5: 3, 8: 4})
        self.assertEqual(served_at(AB, LOG), [0, 0, 0, 0, 0, 0, 1, 1, 1, 2, 2])
        self.assertEqual(there_at(AB, LOG, 0), [])
        self.assertEqual(there_at(AB, LOG, 5), [("x", "b"), ("y", "a"), ("z", "b")])
        self.assertEqual(there_at(AB, LOG, 7), [("z", "b")])
        self.assertEqual(there_at(AB, LOG, 10), [])
        self.assertEqual(amounts_at(AB, LOG, 0), {"a": 0, "b": 0})
        self.assertEqual(amounts_at(AB, LOG, 5), {"a": 1, "b": 2})
        self.assertEqual(amounts_at(AB, LOG, 10), {"a": 0, "b": 0})

    def test_the_empty_log(self):
        for house in (ONE, AB, GREATEST):
            self.assertEqual(told_by(house, ()), {})
            self.assertEqual(taken_by(house, ()), {})
            self.assertEqual(there_at(house, (), 0), [])
            self.assertEqual(amounts_at(house, (), 0), {kind: 0 for kind in house[0]})
            self.assertEqual(served_at(house, ()), [0])

    def test_any_log(self):
        chance = random.Random(17)
        for house in random_houses(17, 50) + [AB, FORKED, CROSSED, ONE, GREATEST]:
            for drops in (True, False):
                log = random_log(chance, house, chance.choice([1, 5, 40]), drops)
                self.hold_against_plain_play(house, log)

    def hold_against_plain_play(self, house, log):
        played = plain.played(log)
        calls = [index for index, row in enumerate(log) if row[0] == "call"]
        told = {index: played[index][0] for index in calls}
        puts = {row[1]: index for index, row in enumerate(log) if row[0] == "put"}
        taken = {index: puts[name] for index, name in told.items() if name is not None}
        self.assertEqual(self.assert_steady(told_by, house, log), told)
        self.assertEqual(self.assert_steady(taken_by, house, log), taken)
        served = [len([index for index in taken if index < moment]) for moment in range(len(log) + 1)]
        self.assertEqual(self.assert_steady(served_at, house, log), served)
        for moment in range(len(log) + 1):
            there = played[moment - 1][1] if moment > 0 else []
            self.assertEqual(self.assert_steady(there_at, house, log, moment), there)
            amounts = {kind: [other for _, other in there].count(kind) for kind in house[0]}
            self.assertEqual(self.assert_steady(amounts_at, house, log, moment), amounts)

    def test_what_is_taken_is_a_giving(self):
        chance = random.Random(18)
        for house in random_houses(18, 60):
            log = random_log(chance, house, 50, False)
            taken = taken_by(house, log)
            self.assertEqual(len(set(taken.values())), len(taken))
            for call, put in taken.items():
                self.assertLess(put, call)
                self.assertEqual((log[call][0], log[put][0]), ("call", "put"))
                self.assertIn(log[put][2], log[call][1])

    def test_a_log_of_two_hundred_rows(self):
        log = random_log(random.Random(19), GREATEST, 200)
        self.hold_against_plain_play(GREATEST, log)


if __name__ == "__main__":
    unittest.main()
