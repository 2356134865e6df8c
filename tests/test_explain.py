"""[53]: what can lack."""

import itertools
import random
import unittest

from calledbest.errors import TooMany
from calledbest.explain import explains, lacks_told, least_lacks
from calledbest.play import told_by
from tests import plain
from tests.helpers import (
    AB, CROSSED, GREATEST, ONE, CallCase, random_houses, random_log, small_houses, turned_about,
)
from tests.test_copies import told

LOG = (("put", "x", "a"), ("put", "y", "a"), ("call", ("a", "b")), ("call", ("a", "b")))


def all_lacks(log, answers, most):
    """Return the list of all lacks of at most so many rows that explain the answers, each lot tried."""
    lots = [lot for size in range(most + 1) for lot in itertools.combinations(range(len(log)), size)]
    return [
        lacks for lacks in lots
        if not set(lacks) & set(answers) and all(told(log, lacks)[index] == name for index, name in answers.items())
    ]


def some_answers(chance, log, right):
    """Return ANSWERS for some calls: those of a copy, or any ones."""
    calls = plain.indexes_of(log, "call")
    calls = chance.sample(calls, min(len(calls), chance.randint(0, 3)))
    names = [row[1] for row in log if row[0] == "put"] + [None]
    if not right:
        return {call: chance.choice(names) for call in calls}
    free = [index for index in range(len(log)) if index not in calls]
    lacks = chance.sample(free, min(len(free), chance.randint(0, 3)))
    return {call: told(log, lacks)[call] for call in calls}


class ExplainTest(CallCase):

    def hold(self, house, log, answers, most, found):
        fewest = min([len(lacks) for lacks in found], default=None)
        self.assertEqual(
            self.assert_steady(least_lacks, house, log, answers, most), sorted(lot for lot in found if len(lot) == fewest)
        )
        sure = self.assert_steady(lacks_told, house, log, answers, most)
        if not found:
            self.assertIsNone(sure)
            return
        expected = {}
        for index in range(len(log)):
            among = {index in lacks for lacks in found}
            expected[index] = "perhaps" if len(among) == 2 else {True: "surely", False: "never"}[among.pop()]
        self.assertEqual(sure, expected)

    def test_by_hand(self):
        self.assertEqual(least_lacks(AB, LOG, {3: "y"}, 2), [()])
        self.assertEqual(least_lacks(AB, LOG, {3: None}, 2), [(0,), (1,)])
        self.assertEqual(lacks_told(AB, LOG, {3: "x"}, 2), {0: "never", 1: "perhaps", 2: "surely", 3: "never"})
        self.assertEqual(lacks_told(AB, LOG, {3: "x"}, 0), None)
        self.assertEqual(least_lacks(AB, LOG, {3: "x"}, 0), [])
        self.assert_truth(True, explains(AB, LOG, (2,), {3: "x"}))
        self.assert_truth(False, explains(AB, LOG, (), {3: "x"}))
        self.assert_truth(False, explains(AB, LOG, (3,), {3: "x"}))
        self.assert_truth(False, explains(AB, LOG, (2,), {2: None, 3: "x"}))

    def test_explains(self):
        chance = random.Random(440)
        met = set()
        for house in small_houses()[::2] + random_houses(440, 20):
            for length in (0, 4, 12, 60):
                log = random_log(chance, house, length)
                for right in (True, False):
                    answers = turned_about(some_answers(chance, log, right))
                    for _ in range(4):
                        lacks = tuple(sorted(chance.sample(range(length), min(length, chance.randint(0, 3)))))
                        names = told(log, lacks)
                        expected = all(index in names and names[index] == name for index, name in answers.items())
                        self.assert_truth(expected, self.assert_steady(explains, house, log, lacks, answers))
                        met.add((expected, bool(set(lacks) & set(answers))))
        self.assertEqual(len(met), 3)

    def test_all_copies(self):
        chance = random.Random(441)
        met = set()
        for house in small_houses()[::2] + random_houses(441, 15):
            for length in (0, 3, 8):
                log = random_log(chance, house, length)
                for most in (0, 1, 2, 3):
                    answers = some_answers(chance, log, chance.random() < 0.7)
                    found = all_lacks(log, answers, most)
                    met.add(min([len(lacks) for lacks in found], default=None))
                    self.hold(house, log, answers, most, found)
        self.assertEqual(met, {None, 0, 1, 2, 3})

    def test_no_answers(self):
        for log in ((), LOG):
            for most in range(4):
                found = all_lacks(log, {}, most)
                self.assertEqual(least_lacks(AB, log, {}, most), [()])
                expected = {index: "perhaps" if most else "never" for index in range(len(log))}
                self.assertEqual(lacks_told(AB, log, {}, most), expected)
                self.hold(AB, log, {}, most, found)

    def test_just_three_rows(self):
        # As many calls must lack as are ahead of the one that is to tell the first thing.
        log = (("put", "x", "a"),) + (("call", ("a",)),) * 5
        for index in range(1, 6):
            answers = {index: "x"}
            for most in range(4):
                expected = [tuple(range(1, index))] if index - 1 <= most else []
                self.assertEqual(least_lacks(ONE, log, answers, most), expected)
        self.assertIsNone(lacks_told(ONE, log, {5: "x"}, 3))
        self.assertEqual(lacks_told(ONE, log, {4: "x"}, 3), {0: "never", 1: "surely", 2: "surely", 3: "surely", 4: "never", 5: "never"})

    def test_thirty_rows_and_more(self):
        chance = random.Random(442)
        for house in (ONE, AB, CROSSED, GREATEST, *random_houses(442, 1)):
            for drops in (True, False):
                log = random_log(chance, house, 30, drops)
                answers = some_answers(chance, log, True)
                for most in (2, 3):
                    if most == 2:
                        self.hold(house, log, answers, most, all_lacks(log, answers, most))
                    for lacks in least_lacks(house, log, answers, most)[:20]:
                        self.assert_truth(True, explains(house, log, lacks, answers))
                self.assertEqual(least_lacks(house, log, told_by(house, log), 3), [()])
                for length in (31, 200):
                    more = random_log(chance, house, length, drops)
                    for most in range(4):
                        self.assert_raises(TooMany, {"most": 30}, least_lacks, house, more, {}, most)
                        self.assert_raises(TooMany, {"most": 30}, lacks_told, house, more, {}, most)
                    self.assert_truth(True, explains(house, more, (), told_by(house, more)))
        log = random_log(chance, AB, 30)
        self.assertEqual(set(lacks_told(AB, log, {}, 3).values()), {"perhaps"})


if __name__ == "__main__":
    unittest.main()
