"""[36], and what [8] says of several rows more or less."""

import random
import unittest

from calledbest.forms import is_log
from calledbest.late import differs, mended_by, new_told
from calledbest.wander import mended, wander
from tests import plain
from tests.helpers import (
    AB, CROSSED, FORKED, GREATEST, ONE, CallCase, mends_of, random_houses, random_log, random_row, small_houses,
)

EXAMPLE = (("put", "x", "b"), ("put", "y", "a"), ("call", ("a", "b")), ("call", ("b",)))


def several_mends(chance, house, log, many):
    """Return a list of mends that may stand together: no two put the same name, or leave out the same row."""
    names = ["new" + letters for letters in "abcdefghijklmnopqrstuvwxyz"]
    mends, left = [], list(range(len(log)))
    for _ in range(many):
        if left and chance.choice([True, False]):
            mends.append(("less", left.pop(chance.randrange(len(left)))))
            continue
        row = random_row(chance, house, log)
        if row[0] == "put":
            row = ("put", names.pop(), row[2])
        mends.append(("more", chance.randint(0, len(log)), row))
    return mends


class LateTest(CallCase):

    def test_by_hand(self):
        self.assertEqual(new_told(AB, EXAMPLE, ("less", 1)), [2, 3])
        self.assertEqual(new_told(AB, EXAMPLE, ("less", 2)), [])
        self.assertEqual(new_told(AB, EXAMPLE, ("less", 0)), [3])
        self.assertEqual(new_told(AB, EXAMPLE, ("more", 2, ("call", ("b",)))), [3])
        self.assertEqual(new_told(AB, EXAMPLE, ("more", 4, ("call", ("b",)))), [])
        self.assertEqual(mended_by(EXAMPLE, []), EXAMPLE)
        mends = [("more", 2, ("drop", "y")), ("less", 2), ("more", 2, ("put", "z", "b")), ("more", 4, ("drop", "x"))]
        self.assertEqual(
            mended_by(EXAMPLE, mends),
            EXAMPLE[:2] + (("drop", "y"), ("put", "z", "b")) + EXAMPLE[3:] + (("drop", "x"),),
        )
        self.assertEqual(
            differs(AB, EXAMPLE, mends),
            [((), ()), ((), ()), (("z",), ("y",)), (("z",), ()), (("z",), ())],
        )

    def test_no_mends(self):
        chance = random.Random(200)
        for house in (ONE, AB, FORKED, GREATEST):
            for length in (0, 1, 12):
                log = random_log(chance, house, length)
                self.assertEqual(mended_by(log, []), log)
                self.assertEqual(self.assert_steady(differs, house, log, []), [((), ())] * (length + 1))

    def test_the_empty_log(self):
        rows = [("put", "x", "a"), ("call", ("a",)), ("put", "y", "a"), ("drop", "x")]
        mends = [("more", 0, row) for row in rows]
        self.assertEqual(mended_by((), mends), tuple(rows))
        self.assertEqual(self.assert_steady(differs, ONE, (), mends), [(("y",), ())])
        self.assertEqual(new_told(ONE, (), mends[0]), [])

    def test_rows_ahead_of_the_same_row_come_in_their_order(self):
        put, call = ("put", "z", "a"), ("call", ("a",))
        log = (("put", "x", "a"), ("call", ("a",)))
        for extra in ([], [("less", 1)]):
            one = [("more", 1, put), ("more", 1, call), *extra]
            other = [("more", 1, call), *extra, ("more", 1, put)]
            self.assertEqual(mended_by(log, one), log[:1] + (put, call) + log[1:2 - len(extra)])
            self.assertEqual(mended_by(log, other), log[:1] + (call, put) + log[1:2 - len(extra)])
            self.assertEqual(differs(ONE, log, one)[1], (("z",), ("x",)))
        self.assertEqual(differs(ONE, log, [("more", 1, put), ("more", 1, call)])[2], ((), ()))

    def test_several_mends(self):
        chance = random.Random(201)
        most_apart = 0
        for house in small_houses()[::2] + random_houses(201, 40) + [GREATEST]:
            log = random_log(chance, house, chance.choice([0, 3, 9, 15]))
            for many in (1, 2, 5, 9):
                mends = several_mends(chance, house, log, many)
                expected = plain.apart(log, mends)
                self.assertEqual(self.assert_steady(differs, house, log, mends), expected)
                rows = self.assert_steady(mended_by, log, mends)
                self.assertEqual(rows, plain.rows_by(log, mends, len(log)))
                self.assert_truth(True, is_log(house, rows))
                for moment, (more, less) in enumerate(expected):
                    done = [mend for mend in mends if mend[1] < moment + (mend[0] == "more")]
                    self.assertLessEqual(len(more) + len(less), len(done))
                    most_apart = max(most_apart, len(more) + len(less))
        self.assertGreater(most_apart, 4)

    def test_one_mend_as_wander_tells(self):
        chance = random.Random(202)
        for house in small_houses()[::5] + random_houses(202, 10):
            log = random_log(chance, house, 10)
            for mend in mends_of(chance, house, log):
                self.assertEqual(mended_by(log, [mend]), mended(log, mend))
                told = wander(house, log, mend)
                for item, (more, less) in zip(told, differs(house, log, [mend])):
                    self.assertEqual(item, ("more", more[0]) if more else ("less", less[0]) if less else None)

    def test_new_told(self):
        chance = random.Random(203)
        for house in small_houses()[::2] + random_houses(203, 25) + [GREATEST]:
            log = random_log(chance, house, chance.choice([4, 9, 15]))
            for mend in mends_of(chance, house, log):
                calls = [index for index in plain.indexes_of(log, "call") if mend != ("less", index)]
                new = [index for index in calls if plain.told_with(log, [mend], index) != plain.told_with(log, [], index)]
                self.assertEqual(self.assert_steady(new_told, house, log, mend), new)
                told = wander(house, log, mend)
                first = mend[1] + (mend[0] == "less")
                self.assertEqual(new, [index for index in calls if index >= first and told[index] != told[index + 1]])

    def test_two_hundred_rows(self):
        chance = random.Random(204)
        for house in random_houses(204, 3) + [GREATEST, CROSSED]:
            for drops in (True, False):
                log = random_log(chance, house, 200, drops)
                mends = several_mends(chance, house, log, 20)
                apart = differs(house, log, mends)
                self.assertEqual(len(apart), 201)
                for moment in (0, 57, 133, 200):
                    one = plain.names_behind(plain.rows_by(log, mends, moment))
                    other = plain.names_behind(log[:moment])
                    self.assertEqual(apart[moment], (tuple(sorted(one - other)), tuple(sorted(other - one))))
                self.assertEqual(mended_by(log, mends), plain.rows_by(log, mends, 200))
                mend = mends[0]
                for index in new_told(house, log, mend)[:3]:
                    self.assertNotEqual(plain.told_with(log, [mend], index), plain.told_with(log, [], index))
        less = [("less", index) for index in range(200)]
        self.assertEqual(mended_by(log, less), ())
        self.assertEqual(differs(house, log, less)[-1], ((), tuple(sorted(plain.names_behind(log)))))


if __name__ == "__main__":
    unittest.main()
