"""[18]: what stretches make of amounts, and stretches as plain logs."""

import itertools
import random
import string
import unittest

from calledbest.acts import acted, kinds_taken, log_of, no_amounts, plus_amounts, stretch_of
from calledbest.forms import is_amounts, is_plain_log
from calledbest.play import amounts_at, taken_by
from tests import plain
from tests.helpers import (
    AB, FORKED, GREATEST, ONE, CallCase, all_amounts, random_houses, random_log, random_stretch, small_houses,
)


class ActsTest(CallCase):

    def test_by_hand(self):
        stretch = (("put", "b"), ("call", ("a",)), ("call", ("a", "b")), ("call", ("a",)), ("call", ("a", "b")))
        self.assertEqual(acted(FORKED, stretch, {"a": 1, "b": 0}), {"a": 0, "b": 0})
        self.assertEqual(kinds_taken(FORKED, stretch, {"a": 1, "b": 0}), [None, "a", "b", None, None])
        self.assertEqual(acted(FORKED, stretch, {"b": 2, "a": 4}), {"a": 0, "b": 3})
        self.assertEqual(kinds_taken(FORKED, stretch, {"b": 2, "a": 4}), [None, "a", "a", "a", "a"])

    def test_the_empty_stretch(self):
        for house in (ONE, AB, GREATEST):
            for amounts in all_amounts(house, 1):
                self.assertEqual(self.assert_steady(acted, house, (), amounts), amounts)
                self.assertEqual(self.assert_steady(kinds_taken, house, (), amounts), [])

    def test_any_stretch(self):
        chance = random.Random(30)
        for house in small_houses()[::3] + random_houses(30, 40) + [GREATEST]:
            stretch = random_stretch(chance, house, chance.randint(1, 12))
            for amounts in chance.sample(all_amounts(house, 2), 2):
                told = self.assert_steady(acted, house, stretch, amounts)
                self.assertEqual(told, plain.acted(house, stretch, amounts))
                self.assertTrue(is_amounts(house, told))
                self.hold_kinds(house, stretch, amounts)

    def hold_kinds(self, house, stretch, amounts):
        taken = self.assert_steady(kinds_taken, house, stretch, amounts)
        self.assertEqual(len(taken), len(stretch))
        for at, deed in enumerate(stretch):
            ahead, behind = (plain.acted(house, stretch[:end], amounts) for end in (at, at + 1))
            gone = [kind for kind in house[0] if behind[kind] < ahead[kind]]
            self.assertEqual(taken[at], gone[0] if gone else None)

    def test_the_bounds(self):
        stretch = random_stretch(random.Random(31), GREATEST, 200)
        for number in (0, 1, 7, 10 ** 9, 10 ** 30, 10 ** 40):
            amounts = {kind: number for kind in GREATEST[0]}
            self.assertEqual(acted(GREATEST, stretch, amounts), plain.acted(GREATEST, stretch, amounts))

    def test_it_acts_as_its_log_plays(self):
        chance = random.Random(32)
        for house in random_houses(32, 40):
            log = random_log(chance, house, 40, False)
            stretch = stretch_of(log)
            self.assertEqual(acted(house, stretch, no_amounts(house)), amounts_at(house, log, len(log)))
            taken = taken_by(house, log)
            kinds = [log[taken[index]][2] if index in taken else None for index in range(len(log))]
            self.assertEqual(kinds_taken(house, stretch, no_amounts(house)), kinds)

    def test_stretch_of(self):
        self.assertEqual(stretch_of(()), ())
        log = (("put", "x", "a"), ("call", ("b",)), ("put", "call", "b"))
        self.assertEqual(stretch_of(log), (("put", "a"), ("call", ("b",)), ("put", "b")))

    def test_log_of(self):
        self.assertEqual(log_of(()), ())
        stretch = (("call", ("b",)), ("put", "b"), ("put", "a"), ("call", ("a", "b")), ("put", "b"))
        log = (("call", ("b",)), ("put", "a", "b"), ("put", "b", "a"), ("call", ("a", "b")), ("put", "c", "b"))
        self.assertEqual(log_of(stretch), log)

    def test_the_names_in_logs(self):
        names = [
            "".join(letters) for size in (1, 2, 3) for letters in itertools.product(string.ascii_lowercase, repeat=size)
        ]
        log = log_of((("put", "a"), ("call", ("a",))) * 750)
        self.assertEqual([row[1] for row in log if row[0] == "put"], names[:750])
        self.assertEqual([names[25], names[26], names[701], names[702]], ["z", "aa", "zz", "aaa"])

    def test_logs_of_stretches(self):
        chance = random.Random(33)
        for house in random_houses(33, 40) + [GREATEST]:
            stretch = random_stretch(chance, house, 200)
            log = log_of(stretch)
            self.assertTrue(is_plain_log(house, log))
            self.assertEqual(stretch_of(log), stretch)

    def test_no_amounts(self):
        self.assertEqual(no_amounts(ONE), {"a": 0})
        for house in random_houses(34, 20):
            self.assertEqual(self.assert_steady(no_amounts, house), dict.fromkeys(house[0], 0))

    def test_plus_amounts(self):
        self.assertEqual(plus_amounts({"a": 1, "b": 2}, {"b": 10 ** 30, "a": 0}), {"a": 1, "b": 10 ** 30 + 2})
        self.assertEqual(self.assert_steady(plus_amounts, {"b": 1, "a": 2}, {"b": 3, "a": 4}), {"a": 6, "b": 4})
        same = {"z": 3, "c": 4}
        self.assertEqual(self.assert_steady(plus_amounts, same, same), {"c": 8, "z": 6})


if __name__ == "__main__":
    unittest.main()
