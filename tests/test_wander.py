"""[34], and what [8] says of one row more or less."""

import random
import unittest

from calledbest.forms import is_log
from calledbest.wander import mended, wander
from tests import plain
from tests.helpers import (
    AB, CROSSED, FORKED, GREATEST, ONE, CallCase, deeds_of, mends_of, random_houses, random_log, small_houses,
)

EXAMPLE = (("put", "x", "b"), ("put", "y", "a"), ("call", ("a", "b")), ("call", ("b",)))


class WanderTest(CallCase):

    def hold(self, house, log, mend):
        """What wanders is what is there in one of the two alone, at each moment."""
        expected = []
        for more, less in plain.apart(log, [mend]):
            self.assertLessEqual(len(more) + len(less), 1)
            expected.append(("more", more[0]) if more else ("less", less[0]) if less else None)
        self.assertEqual(self.assert_steady(wander, house, log, mend), expected)
        return expected

    def test_by_hand(self):
        self.assertEqual(wander(AB, EXAMPLE, ("less", 1)), [None, None, ("less", "y"), ("less", "x"), None])
        self.assertEqual(wander(AB, EXAMPLE, ("less", 0)), [None, ("less", "x"), ("less", "x"), ("less", "x"), None])
        self.assertEqual(wander(AB, EXAMPLE, ("less", 3)), [None, None, None, None, ("more", "x")])
        self.assertEqual(wander(AB, EXAMPLE, ("more", 4, ("drop", "x"))), [None] * 5)
        self.assertEqual(
            wander(AB, EXAMPLE, ("more", 0, ("put", "z", "a"))), [("more", "z"), ("more", "z"), ("more", "z"), ("more", "y"), ("more", "y")]
        )
        self.assertEqual(wander(AB, EXAMPLE, ("more", 2, ("call", ("b",)))), [None, None, ("less", "x"), ("less", "x"), None])
        self.assertEqual(mended(EXAMPLE, ("less", 1)), EXAMPLE[:1] + EXAMPLE[2:])
        self.assertEqual(mended(EXAMPLE, ("more", 1, ("drop", "x"))), EXAMPLE[:1] + (("drop", "x"),) + EXAMPLE[1:])

    def test_the_empty_log(self):
        for house in (ONE, FORKED, GREATEST):
            self.assertEqual(mended((), ("more", 0, ("put", "x", "a"))), (("put", "x", "a"),))
            self.assertEqual(self.assert_steady(wander, house, (), ("more", 0, ("put", "x", "a"))), [("more", "x")])
            for row in (("drop", "x"), ("call", house[1][0])):
                self.assertEqual(mended((), ("more", 0, row)), (row,))
                self.assertEqual(wander(house, (), ("more", 0, row)), [None])

    def test_ahead_of_the_first_row_and_behind_all(self):
        row = ("put", "z", "b")
        self.assertEqual(mended(EXAMPLE, ("more", 0, row)), (row,) + EXAMPLE)
        self.assertEqual(mended(EXAMPLE, ("more", 4, row)), EXAMPLE + (row,))
        self.assertEqual(wander(AB, EXAMPLE, ("more", 4, row)), [None, None, None, None, ("more", "z")])
        self.assertEqual(mended(EXAMPLE, ("less", 0)), EXAMPLE[1:])
        self.assertEqual(mended(EXAMPLE, ("less", 3)), EXAMPLE[:3])

    def test_a_row_that_does_nothing(self):
        log = (("call", ("b",)), ("drop", "x"), ("put", "x", "b"), ("drop", "y"), ("put", "z", "a"))
        for index in (0, 1, 3):
            self.assertEqual(wander(AB, log, ("less", index)), [None] * 6)

    def test_a_put_that_is_never_taken(self):
        log = EXAMPLE + (("call", ("b",)),)
        self.assertEqual(wander((("a", "b", "c"), (("a", "b"), ("b",), ("c",))), log, ("more", 1, ("put", "z", "c"))), [None] + [("more", "z")] * 5)

    def test_a_name_that_a_drop_tells_of(self):
        log = (("put", "x", "a"), ("drop", "z"), ("call", ("a",)), ("drop", "z"))
        self.assertEqual(wander(ONE, log, ("more", 0, ("put", "z", "a"))), [("more", "z"), ("more", "z"), None, None, None])
        self.assertEqual(
            wander(ONE, log, ("more", 2, ("put", "z", "a"))), [None, None, ("more", "z"), ("more", "z"), None]
        )
        self.assertEqual(
            wander(ONE, log[:3] + (("call", ("a",)),) * 2, ("more", 3, ("put", "z", "a"))),
            [None, None, None, ("more", "z"), None, None],
        )
        # The call takes z, which was put first, so x stays, and no drop tells of it.
        log = (("put", "x", "a"), ("call", ("a",)), ("drop", "z"))
        self.assertEqual(wander(ONE, log, ("more", 0, ("put", "z", "a"))), [("more", "z"), ("more", "z"), ("more", "x"), ("more", "x")])

    def test_all_mends(self):
        chance = random.Random(180)
        sorts = set()
        for house in small_houses()[::2] + random_houses(180, 25) + [GREATEST]:
            log = random_log(chance, house, chance.choice([3, 8, 14]))
            for mend in mends_of(chance, house, log) + mends_of(chance, house, log):
                told = self.hold(house, log, mend)
                sorts.update(item and item[0] for item in told)
                with_mend = mended(log, mend)
                self.assertEqual(with_mend, plain.rows_by(log, [mend], len(log)))
                self.assert_truth(True, is_log(house, with_mend))
        self.assertEqual(sorts, {None, "more", "less"})

    def test_all_rows_at_all_places(self):
        log = (("put", "x", "b"), ("call", ("a", "b")), ("put", "y", "a"), ("put", "w", "a"), ("drop", "w"), ("call", ("a",)))
        for house in (FORKED, CROSSED):
            rows = [("put", "z", deed[1]) if deed[0] == "put" else deed for deed in deeds_of(house)]
            for row in rows + [("drop", name) for name in "wxyz"]:
                for index in range(len(log) + 1):
                    self.hold(house, log, ("more", index, row))

    def test_two_hundred_rows(self):
        chance = random.Random(181)
        for house in random_houses(181, 4) + [GREATEST]:
            for drops in (True, False):
                log = random_log(chance, house, 200, drops)
                for mend in chance.sample(mends_of(chance, house, log), 3):
                    told = wander(house, log, mend)
                    apart = plain.apart(log[:60], [mend]) if mend[1] < 60 else []
                    for item, (more, less) in zip(told, apart):
                        self.assertEqual(item, ("more", more[0]) if more else ("less", less[0]) if less else None)
                    self.assertEqual(len(told), 201)
                    self.assertEqual(mended(log, mend), plain.rows_by(log, [mend], 200))
                    last = plain.names_behind(mended(log, mend)) ^ plain.names_behind(log)
                    self.assertEqual({told[200][1]} if told[200] else set(), last)


if __name__ == "__main__":
    unittest.main()
