"""[38]: what one row, or a few, would have changed for a call."""

import itertools
import random
import unittest

from calledbest.asks import least_strikes, mends_that_serve
from calledbest.errors import NoIndex, TooMany
from calledbest.play import told_by
from tests import plain
from tests.helpers import (
    AB, CROSSED, FORKED, GREATEST, ONE, CallCase, any_values, random_houses, random_log, small_houses,
)

LOG = (("put", "x", "b"), ("put", "y", "a"), ("call", ("a", "b")), ("call", ("b",)))
LATE = LOG + (("call", ("b",)),)


class AsksTest(CallCase):

    def test_by_hand(self):
        self.assertEqual(mends_that_serve(AB, LATE, 4)[:2], [("less", 3), ("more", 0, "b")])
        # A thing of a would go to the first call: then y would be there, which the last one does not accept.
        self.assertEqual(
            mends_that_serve(AB, LATE, 4), [("less", 3)] + [("more", at, "b") for at in range(5)]
        )
        self.assertEqual(least_strikes(AB, LATE, 2, "x"), (1,))
        self.assertEqual(least_strikes(AB, LATE, 4, "x"), (3,))
        self.assertEqual(least_strikes(AB, LATE, 2, "y"), ())
        self.assertIsNone(least_strikes(AB, LATE, 4, "y"))
        self.assertIsNone(least_strikes(AB, LATE, 4, "never"))
        log = (("put", "x", "a"), ("drop", "x"), ("call", ("a", "b")))
        self.assertEqual(mends_that_serve(AB, log, 2)[:2], [("less", 1), ("more", 0, "a")])
        self.assertEqual(len(mends_that_serve(AB, log, 2)), 7)

    def brute(self, house, log, index):
        """Return the mends that serve a call, each one tried."""
        less = [("less", at) for at in range(index)]
        more = [("more", at, kind) for at in range(index + 1) for kind in house[0]]
        found = [mend for mend in less if plain.told_with(log, [mend], index) is not None]
        for sort, at, kind in more:
            if plain.told_with(log, [(sort, at, ("put", "new", kind))], index) is not None:
                found.append((sort, at, kind))
        return sorted(found)

    def test_all_mends(self):
        chance = random.Random(220)
        sizes = set()
        for house in small_houses()[::2] + random_houses(220, 25) + [GREATEST]:
            for length in (1, 5, 12):
                log = random_log(chance, house, length)
                for index, name in told_by(house, log).items():
                    if name is None:
                        told = self.assert_steady(mends_that_serve, house, log, index)
                        self.assertEqual(told, self.brute(house, log, index))
                        sizes.add(len(told))
                    else:
                        self.assert_raises(NoIndex, {"index": index}, mends_that_serve, house, log, index)
        self.assertGreater(len(sizes), 10)

    def test_no_index(self):
        for index in (-1, 0, 1, 5, 6, 10 ** 30, True, False, None, "4", (4,), [4], {4: 4}):
            self.assert_raises(NoIndex, {"index": index}, mends_that_serve, AB, LATE, index)
            self.assert_raises(NoIndex, {"index": index}, least_strikes, AB, LATE, index, "x")
        # Calls that tell something.
        for index in (2, 3):
            self.assert_raises(NoIndex, {"index": index}, mends_that_serve, AB, LATE, index)
            self.assertIsNotNone(least_strikes(AB, LATE, index, "x"))
        log = (("call", ("a",)),) * 2 + (("drop", "x"),)
        for value in any_values():
            if value in (0, 1) and not isinstance(value, bool):
                self.assertEqual(least_strikes(ONE, log, value, "x"), None)
                self.assertEqual(mends_that_serve(ONE, log, value)[-1], ("more", value, "a"))
                continue
            self.assert_raises(NoIndex, {"index": value}, mends_that_serve, ONE, log, value)
            self.assert_raises(NoIndex, {"index": value}, least_strikes, ONE, log, value, "x")
            self.assert_raises(NoIndex, {"index": value}, least_strikes, ONE, (), value, "x")

    def brute_strikes(self, log, index, name):
        """Return the least of the smallest sets of rows without which a call tells a name, each set tried."""
        for many in range(4):
            found = [
                rows for rows in itertools.combinations(range(index), many)
                if plain.told_with(log, [("less", at) for at in rows], index) == name
            ]
            if found:
                return min(found)
        return None

    def test_all_strikes(self):
        chance = random.Random(221)
        sizes = set()
        for house in small_houses()[::4] + random_houses(221, 12, 4):
            log = random_log(chance, house, 10)
            names = [row[1] for row in log if row[0] == "put"]
            for index in plain.indexes_of(log, "call"):
                for name in names + ["never"]:
                    told = self.assert_steady(least_strikes, house, log, index, name)
                    self.assertEqual(told, self.brute_strikes(log, index, name))
                    sizes.add(None if told is None else len(told))
        self.assertEqual(sizes, {None, 0, 1, 2, 3})

    def test_three_rows_and_four(self):
        # The last of five things of a kind is told only if as many rows as are ahead of it are left out.
        puts = tuple(("put", name, "a") for name in ("va", "vb", "vc", "vd", "ve"))
        log = puts + (("call", ("a",)),)
        self.assertEqual(
            [least_strikes(ONE, log, 5, row[1]) for row in puts], [(), (0,), (0, 1), (0, 1, 2), None]
        )
        # Calls that are left out let things stay: of several with equally many rows the least is told.
        calls = puts[:1] + (("call", ("a",)),) * 4
        self.assertEqual([least_strikes(ONE, calls, index, "va") for index in (1, 2, 3, 4)], [(), (1,), (1, 2), (1, 2, 3)])
        self.assertIsNone(least_strikes(ONE, calls + calls[1:2], 5, "va"))

    def test_index_thirty_and_thirty_one(self):
        log = (("put", "x", "a"),) + (("call", ("a",)),) * 40
        self.assertIsNone(least_strikes(ONE, log, 30, "x"))
        for index in (31, 32, 40):
            self.assert_raises(TooMany, {"most": 30}, least_strikes, ONE, log, index, "x")
        self.assert_raises(NoIndex, {"index": 41}, least_strikes, ONE, log, 41, "x")
        self.assert_raises(NoIndex, {"index": 31}, least_strikes, ONE, log[:31] + (("put", "y", "a"),), 31, "x")
        log = (("put", "x", "a"),) * 1 + (("drop", "y"),) * 27 + (("call", ("a",)),) * 14
        self.assertEqual(least_strikes(ONE, log, 30, "x"), (28, 29))
        self.assert_raises(TooMany, {"most": 30}, least_strikes, ONE, log, 31, "x")
        chance = random.Random(222)
        for house in (GREATEST, CROSSED):
            log = random_log(chance, house, 30) + (("call", house[1][0]),)
            names = [row[1] for row in log if row[0] == "put"][:2]
            for name in names:
                self.assertEqual(least_strikes(house, log, 30, name), self.brute_strikes(log, 30, name))

    def test_all_strikes_with_many_drops(self):
        chance = random.Random(224)
        sizes = set()
        for house in (ONE, AB, FORKED, CROSSED, *random_houses(224, 10, 4)):
            for _ in range(3):
                log = list(random_log(chance, house, 11))
                names = [row[1] for row in log if row[0] == "put"]
                for name in names[:3]:
                    # A thing is dropped ahead of its put, behind it, and once more.
                    log[chance.randrange(len(log))] = ("drop", name)
                log = tuple(log) + (("call", chance.choice(house[1])),)
                for name in [row[1] for row in log if row[0] == "put"] + names[:1] + ["never"]:
                    told = self.assert_steady(least_strikes, house, log, 11, name)
                    self.assertEqual(told, self.brute_strikes(log, 11, name))
                    sizes.add(None if told is None else len(told))
        self.assertEqual(sizes, {None, 0, 1, 2, 3})

    def test_index_thirty(self):
        # So many calls that take x, drops of x, and things of the better kind are in the way.
        for calls, drops, things in (
            (0, 0, 0), (1, 0, 0), (0, 1, 0), (0, 0, 1), (1, 1, 0), (0, 1, 1), (1, 1, 1), (0, 3, 0), (3, 0, 0), (0, 0, 3),
            (2, 2, 0), (0, 4, 0), (4, 0, 0), (1, 1, 2), (0, 0, 4),
        ):
            rows = (("put", "x", "b"),) + (("call", ("b",)),) * calls + (("drop", "x"),) * drops
            rows = rows + tuple(("put", "t" + letter, "a") for letter in "abcd"[:things])
            log = (("call", ("b",)),) * (30 - len(rows)) + rows + (("call", ("a", "b")),)
            told = self.assert_steady(least_strikes, AB, log, 30, "x")
            many = calls + drops + things
            self.assertEqual(told, tuple(range(30 - many, 30)) if many <= 3 else None)
            self.assertEqual(told, self.brute_strikes(log, 30, "x"))

    def test_drops_of_one_thing_again_and_again(self):
        # Without one of its drops the thing ahead is dropped all the same.
        log = (("put", "o", "a"), ("put", "x", "a"), ("drop", "o"), ("drop", "o"), ("call", ("a",)), ("call", ("a",)))
        self.assertEqual(least_strikes(ONE, log, 5, "x"), (4,))
        self.assertEqual(least_strikes(ONE, log, 5, "o"), (2, 3, 4))
        self.assertEqual(least_strikes(ONE, log[:3] + log[4:], 4, "x"), (2,))
        for name in ("o", "x"):
            self.assertEqual(least_strikes(ONE, log, 5, name), self.brute_strikes(log, 5, name))

    def test_thirty_puts(self):
        log = tuple(("put", "p" + letter, "a") for letter in "abcdefghijklmnopqrstuvwxyz") + (("put", "x", "b"),)
        log = log + (("drop", "pa"), ("drop", "pz"), ("call", ("b",)), ("call", ("b",)))
        self.assertEqual(least_strikes(AB, log, 30, "x"), (29,))
        self.assertIsNone(least_strikes(AB, log, 30, "pa"))

    def test_where_no_strike_helps(self):
        puts = tuple(("put", letter, "a") for letter in "abcdefghijklmno")
        log = puts + (("call", ("b",)),) * 16
        for name in ("zz", "a", "o"):
            self.assertIsNone(least_strikes(AB, log, 30, name))
        log = puts[:10] + (("call", ("b",)),) * 10
        self.assertIsNone(least_strikes(AB, log, 19, "zz"))
        self.assertIsNone(self.brute_strikes(log, 19, "zz"))
        # Fifteen things, each with a drop of its own: it would take the drop of one, and those ahead of it.
        log = puts + tuple(("drop", row[1]) for row in puts) + (("call", ("a", "b")),)
        self.assertEqual([least_strikes(AB, log, 30, name) for name in "abo"], [(15,), (16,), (29,)])
        stays = puts + tuple(("drop", row[1]) for row in puts[4:]) + (("drop", "z"),) * 4 + (("call", ("a", "b")),)
        self.assertEqual([least_strikes(AB, stays, 30, name) for name in "abcd"], [(), (0,), (0, 1), (0, 1, 2)])
        self.assertIsNone(least_strikes(AB, stays, 30, "e"))
        self.assertIsNone(self.brute_strikes(stays, 30, "e"))
        # What is put at the call or behind it is not told.
        self.assertIsNone(least_strikes(ONE, (("call", ("a",)), ("put", "x", "a")), 0, "x"))

    def test_two_hundred_rows(self):
        chance = random.Random(223)
        for house in random_houses(223, 3) + [GREATEST, CROSSED, ONE]:
            for drops in (True, False):
                log = random_log(chance, house, 199, drops) + (("call", house[1][-1]),)
                nothing = [index for index, name in told_by(house, log).items() if name is None]
                for index in nothing[-1:]:
                    told = mends_that_serve(house, log, index)
                    self.assertEqual(told, sorted(told))
                    for at in chance.sample(range(index), min(index, 12)):
                        kind = chance.choice(house[0])
                        for mend, tried in (
                            (("less", at), ("less", at)), (("more", at, kind), ("more", at, ("put", "new", kind))),
                        ):
                            self.assertEqual(mend in told, plain.told_with(log, [tried], index) is not None)


if __name__ == "__main__":
    unittest.main()
