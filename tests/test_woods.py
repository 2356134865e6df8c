"""[35]: wanderers, and where they end."""

import random
import unittest

from calledbest.wander import wander
from calledbest.woods import ends_of, path_of
from tests import plain
from tests.helpers import (
    AB, CROSSED, FORKED, GREATEST, ONE, CallCase, mends_of, random_houses, random_log, small_houses,
)

EXAMPLE = (("put", "x", "b"), ("put", "y", "a"), ("call", ("a", "b")), ("call", ("b",)))


class WoodsTest(CallCase):

    def test_by_hand(self):
        self.assertEqual(path_of(AB, EXAMPLE, 2, "less", "y"), ["y", "x", None])
        self.assertEqual(path_of(AB, EXAMPLE, 3, "more", "y"), ["y", "y"])
        self.assertEqual(path_of(AB, EXAMPLE, 4, "more", "x"), ["x"])
        self.assertEqual(path_of(AB, EXAMPLE, 1, "less", "x"), ["x", "x", "x", None])
        self.assertEqual(ends_of(AB, EXAMPLE[:2]), {
            (1, "less", "x"): "x", (2, "less", "x"): "x", (2, "less", "y"): "y",
        })
        self.assertEqual(ends_of(AB, EXAMPLE), {
            (1, "less", "x"): None, (2, "less", "x"): None, (2, "less", "y"): None,
            (3, "less", "x"): None, (3, "more", "y"): "y", (4, "more", "x"): "x", (4, "more", "y"): "y",
        })

    def test_a_thing_more_keeps_its_place(self):
        # Once x is taken, and comes back in thought, it is ahead of z, which was put later.
        log = (("put", "x", "a"), ("call", ("a",)), ("put", "z", "a"), ("call", ("a",)), ("call", ("a",)))
        self.assertEqual(path_of(ONE, log, 2, "more", "x"), ["x", "x", "z", None])
        self.assertEqual(path_of(ONE, log, 3, "more", "x"), ["x", "z", None])
        self.assertEqual(path_of(ONE, log, 3, "less", "z"), ["z", None, None])

    def test_drops(self):
        log = (("put", "x", "a"), ("put", "z", "a"), ("drop", "x"), ("drop", "z"), ("drop", "x"))
        self.assertEqual(path_of(ONE, log, 1, "less", "x"), ["x", "x", None, None, None])
        self.assertEqual(path_of(ONE, log, 2, "less", "z"), ["z", "z", None, None])
        self.assertEqual(path_of(ONE, log, 3, "more", "x"), ["x", "x", None])
        self.assertEqual(path_of(ONE, log, 4, "more", "z"), ["z", "z"])

    def test_the_empty_log(self):
        for house in (ONE, FORKED, GREATEST):
            self.assertEqual(self.assert_steady(ends_of, house, ()), {})
            self.assertEqual(ends_of(house, (("call", house[1][0]), ("drop", "x"))), {})

    def test_all_wanderers(self):
        chance = random.Random(190)
        ended = set()
        for house in small_houses()[::2] + random_houses(190, 30) + [GREATEST]:
            log = random_log(chance, house, chance.choice([4, 9, 16]), chance.choice([True, False]))
            expected = {}
            for moment in range(len(log) + 1):
                for sort, name in plain.wanderers(log, moment):
                    path = plain.path(log, moment, sort, name)
                    self.assertEqual(self.assert_steady(path_of, house, log, moment, sort, name), path)
                    self.assertEqual(len(path), len(log) - moment + 1)
                    expected[(moment, sort, name)] = path[-1]
                    ended.add((sort, path[-1] is None, path[-1] == name))
            self.assertEqual(self.assert_steady(ends_of, house, log), expected)
        self.assertEqual(len(ended), 6)

    def test_who_has_met_goes_on_as_one(self):
        chance = random.Random(191)
        for house in random_houses(191, 20, 4):
            log = random_log(chance, house, 20)
            for sort in ("less", "more"):
                paths = [
                    (moment, path_of(house, log, moment, sort, name))
                    for moment in range(21) for other, name in plain.wanderers(log, moment) if other == sort
                ]
                for moment, path in paths:
                    for later, other in paths:
                        if moment <= later and path[later - moment] == other[0]:
                            self.assertEqual(path[later - moment:], other)

    def test_what_wanders_goes_by_the_paths(self):
        chance = random.Random(192)
        for house in small_houses()[::3] + random_houses(192, 20):
            log = random_log(chance, house, 14)
            puts = {row[1] for row in log if row[0] == "put"}
            for mend in mends_of(chance, house, log):
                told = wander(house, log, mend)
                for moment, item in enumerate(told):
                    if item is not None and item[1] in puts:
                        rest = [item and item[1] for item in told[moment:]]
                        self.assertEqual(path_of(house, log, moment, *item), rest)

    def test_two_hundred_rows(self):
        chance = random.Random(193)
        for house in random_houses(193, 3) + [GREATEST, CROSSED, ONE]:
            for drops in (True, False):
                log = random_log(chance, house, 200, drops)
                ends = ends_of(house, log)
                self.assertEqual(list(ends), sorted(ends))
                keys = [(moment, *one) for moment in range(0, 201, 25) for one in plain.wanderers(log, moment)]
                self.assertEqual([key for key in ends if key[0] % 25 == 0], sorted(keys))
                for key in chance.sample(keys, 4):
                    self.assertEqual(path_of(house, log, *key)[-1], ends[key])
                moment, sort, name = chance.choice([key for key in keys if key[0] >= 150])
                path = plain.path(log, moment, sort, name)
                self.assertEqual(path_of(house, log, moment, sort, name), path)
                self.assertEqual(ends[(moment, sort, name)], path[-1])
        puts = tuple(("put", "x" + "abcdefghijklmnopqrst"[at % 20] + "abcdefghij"[at // 20], "a") for at in range(200))
        ends = ends_of(ONE, puts)
        self.assertEqual(len(ends), 200 * 201 // 2)
        self.assertTrue(all(end == key[2] for key, end in ends.items()))


if __name__ == "__main__":
    unittest.main()
