"""[45]: turns, day stretches and day logs."""

import random
import unittest

from calledbest.acts import acted
from calledbest.best import best_of
from calledbest.play import told_by
from calledbest.turns import acted_days, best_days, is_turn, kind_by, told_days
from tests import plain, plain_days
from tests.helpers import (
    AB, CROSSED, GREATEST, ONE, SIX, CallCase, any_values, random_houses, random_log, random_stretch, small_houses,
    turned_about,
)

SHELF = (("new", "old"), (("new", "old"),))
AGE = {"new": "old", "old": None}
LOG = (("put", "x", "old"), ("put", "y", "new"), ("call", ("new", "old")), ("turn", 0), ("call", ("new", "old")))


class TurnsTest(CallCase):

    def test_by_hand(self):
        self.assertEqual(told_days(SHELF, (AGE,), LOG), {2: "y", 4: None})
        self.assertEqual(best_days(SHELF, (AGE,), LOG), 2)
        self.assertEqual(acted_days(SHELF, (AGE,), (("turn", 0), ("put", "new")), {"old": 7, "new": 3}), {"new": 1, "old": 3})
        self.assertEqual([kind_by((AGE,), "new", word) for word in ((), (0,), (0, 0), (0, 0, 0))], ["new", "old", None, None])
        # What was put first among things that are now of one kind, whatever kind they were of.
        log = (("put", "x", "old"), ("put", "y", "new"), ("put", "z", "old"), ("turn", 0), ("call", ("new", "old")))
        self.assertEqual(told_days(SHELF, ({"old": "old", "new": "old"},), log), {4: "x"})
        self.assertEqual(told_days(SHELF, ({"old": "new", "new": "old"},), log), {4: "x"})
        self.assertEqual(told_days(SHELF, ({"old": "new", "new": "old"},), log[1:]), {3: "z"})

    def test_is_turn(self):
        for house in small_houses()[::7] + [GREATEST]:
            kinds = house[0]
            for turn in ({kind: kind for kind in kinds}, {kind: None for kind in kinds}, {kind: kinds[0] for kind in kinds}):
                self.assert_truth(True, is_turn(house, turn))
                self.assert_truth(True, is_turn(house, turned_about(turn)))
                for wrong in (
                    {**turn, "q": None}, {**turn, None: None}, {**turn, kinds[0]: "q"}, {**turn, kinds[-1]: True},
                    {**turn, kinds[0]: False}, {**turn, kinds[0]: (kinds[0],)}, {**turn, kinds[0]: [kinds[0]]},
                    {kind: turn[kind] for kind in kinds[1:]}, list(turn.items()), tuple(turn), (turn,), [turn],
                ):
                    self.assert_truth(False, is_turn(house, wrong))
        for value in any_values():
            self.assert_truth(False, is_turn(AB, value))
            self.assert_truth(False, is_turn(GREATEST, value))
            for house in (AB, ONE):
                turn = {kind: value for kind in house[0]}
                self.assert_truth(value is None or value in list(house[0]), is_turn(house, turn))
        self.assert_truth(False, is_turn(ONE, {"a": 1}))

    def test_kind_by(self):
        chance = random.Random(340)
        for house in small_houses()[::5] + random_houses(340, 10):
            turns = plain_days.random_turns(chance, house, 4)
            for kind in house[0]:
                for length in (0, 1, 2, 5, 200):
                    word = tuple(chance.randrange(4) for _ in range(length))
                    self.assertEqual(self.assert_steady(kind_by, turns, kind, word), plain_days.kind_by(turns, kind, word))

    def test_acted_days(self):
        chance = random.Random(341)
        for house in small_houses()[::2] + random_houses(341, 20):
            for many in (0, 1, 2, 4):
                turns = plain_days.random_turns(chance, house, many)
                stretch = plain_days.random_day_stretch(chance, house, turns, chance.choice([0, 1, 6, 30]))
                amounts = turned_about({kind: chance.randint(0, 4) for kind in sorted(house[0])})
                told = self.assert_steady(acted_days, house, turns, stretch, amounts)
                self.assertEqual(told, plain_days.acted(house, turns, stretch, amounts))

    def test_by_which_all_perishes_stays_or_changes_places(self):
        perish, stay = {kind: None for kind in SIX}, {kind: kind for kind in SIX}
        places = dict(zip(SIX, SIX[1:] + SIX[:1]))
        turns = (perish, stay, places)
        amounts = {kind: 10 ** 9 + at for at, kind in enumerate(sorted(SIX))}
        self.assertEqual(acted_days(GREATEST, turns, (("turn", 0),), amounts), {kind: 0 for kind in SIX})
        self.assertEqual(acted_days(GREATEST, turns, (("turn", 1),) * 9, amounts), amounts)
        self.assertEqual(acted_days(GREATEST, turns, (("turn", 2),) * 6, amounts), amounts)
        behind = acted_days(GREATEST, turns, (("turn", 2),), amounts)
        self.assertEqual(behind, {places[kind]: amounts[kind] for kind in SIX})

    def test_no_turns(self):
        chance = random.Random(342)
        for house in small_houses()[::4] + random_houses(342, 8):
            stretch = random_stretch(chance, house, 15)
            amounts = {kind: 2 for kind in house[0]}
            log = random_log(chance, house, 15, False)
            self.assertEqual(acted_days(house, (), stretch, amounts), acted(house, stretch, amounts))
            self.assertEqual(told_days(house, (), log), told_by(house, log))
            self.assertEqual(best_days(house, (), log), best_of(house, log))
            self.assertEqual((told_days(house, (), ()), best_days(house, (), ())), ({}, 0))
            self.assertEqual(acted_days(house, (), (), amounts), amounts)

    def test_told_days(self):
        chance = random.Random(343)
        for house in small_houses()[::2] + random_houses(343, 20):
            for length in (3, 8, 20):
                turns = plain_days.random_turns(chance, house, chance.randint(1, 4))
                log = plain_days.random_day_log(chance, house, turns, length)
                self.assertEqual(self.assert_steady(told_days, house, turns, log), plain_days.told(turns, log))

    def test_best_by_all_givings(self):
        chance = random.Random(344)
        found = set()
        for house in small_houses()[::2] + random_houses(344, 20):
            turns = plain_days.random_turns(chance, house, chance.randint(1, 4))
            log = plain_days.random_day_log(chance, house, turns, 10)
            number = max(len(giving) for giving in plain_days.givings(turns, log))
            found.add(number)
            self.assertEqual(self.assert_steady(best_days, house, turns, log), number)
            self.assertEqual(plain_days.best(turns, log), number)
        self.assertGreater(len(found), 3)

    def test_two_hundred_rows(self):
        chance = random.Random(345)
        for house in random_houses(345, 3) + [GREATEST, CROSSED, ONE]:
            turns = plain_days.random_turns(chance, house, 4)
            turns = tuple(turn for turn in turns if any(turn.values())) or ({kind: kind for kind in house[0]},)
            log = plain_days.random_day_log(chance, house, turns, 200)
            self.assertEqual(told_days(house, turns, log), plain_days.told(turns, log))
            self.assertEqual(best_days(house, turns, log), plain_days.best(turns, log))
            stretch = plain_days.random_day_stretch(chance, house, turns, 200)
            for many in (0, 10 ** 9):
                told = acted_days(house, turns, stretch, {kind: many for kind in house[0]})
                if many == 0:
                    self.assertEqual(told, plain_days.acted(house, turns, stretch, {kind: 0 for kind in house[0]}))
        stay = {"a": "a"}
        log = tuple(("put", name + "q", "a") for name in "abcdefghij") * 1 + (("turn", 0),) * 180 + (("call", ("a",)),) * 10
        self.assertEqual(best_days(ONE, (stay,), log), 10)
        self.assertEqual(best_days(ONE, ({"a": None},), log), 0)
        self.assertEqual(plain.best(tuple(row for row in log if row[0] != "turn")), 10)


if __name__ == "__main__":
    unittest.main()
