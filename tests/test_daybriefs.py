"""[47]: day briefs."""

import itertools
import random
import unittest

from calledbest.briefs import brief_of
from calledbest.daybriefs import acted_by_days, day_brief, is_plain_turn, leads_back
from calledbest.errors import NoBrief, NotNested
from tests import plain, plain_days
from tests.helpers import (
    AB, CROSSED, FORKED, GREATEST, ONE, CallCase, nested_random_houses, random_houses, random_stretch, small_houses,
    turned_about,
)

SHELF = (("new", "old"), (("new", "old"),))
RIPE = {"old": "old", "new": "old"}
APART = (tuple("abcdef"), tuple((kind,) for kind in "abcdef"))


def nested_houses():
    """Return all small nested houses."""
    return [house for house in small_houses() if plain.tails_agree(house)]


def cases(seed, lengths):
    """Return the list of nested houses, plain turns and day stretches."""
    chance = random.Random(seed)
    found = []
    for house in nested_houses() + nested_random_houses(seed, 15):
        for length in lengths:
            turns = plain_days.plain_turns(chance, house, chance.randint(1, 4))
            found.append((house, turns, plain_days.random_day_stretch(chance, house, turns, length)))
    return found


def many_things(house, most):
    """Return the list of amounts with at most two things of each kind, and those with very many of a beginning set alone."""
    many = [{kind: most * (kind in part) for kind in house[0]} for part in plain.beginning_sets(house)]
    return plain.amounts_up_to(house, 2 if len(house[0]) < 4 else 1) + many


class DayBriefsTest(CallCase):

    def test_by_hand(self):
        self.assert_truth(True, is_plain_turn(SHELF, RIPE))
        self.assertEqual(leads_back(SHELF, RIPE, ("old",)), ("new", "old"))
        self.assertEqual(leads_back(SHELF, {"new": "old", "old": None}, ("old",)), ("new",))
        self.assertEqual(leads_back(SHELF, RIPE, ()), ())
        self.assertEqual(day_brief(SHELF, (RIPE,), (("turn", 0),)), {
            (): {(): 0}, ("new",): {(): 0}, ("new", "old"): {(): 0, ("new",): 0, ("new", "old"): 0},
        })
        self.assertEqual(day_brief(ONE, ({"a": None},), (("put", "a"), ("turn", 0), ("put", "a"))), {(): {(): 0}, ("a",): {(): 1}})
        # What perishes leads back to nothing, which is a beginning set; what only b becomes is none where a is ahead.
        self.assert_truth(True, is_plain_turn(AB, {"a": None, "b": None}))
        self.assert_truth(False, is_plain_turn(AB, {"a": "b", "b": "a"}))
        self.assert_truth(False, is_plain_turn(AB, {"a": None, "b": "b"}))
        self.assert_truth(True, is_plain_turn(AB, {"a": "a", "b": None}))

    def test_plain_turns(self):
        chance = random.Random(360)
        met = set()
        for house in small_houses() + random_houses(360, 25) + [GREATEST]:
            for turn in plain_days.random_turns(chance, house, 5):
                for part in plain.sets(house)[:12]:
                    told = self.assert_steady(leads_back, house, turn, part)
                    self.assertEqual(told, tuple(kind for kind in house[0] if kind in plain_days.back(turn, part)))
                expected = plain_days.is_plain_turn(house, turn)
                met.add(expected)
                self.assert_truth(expected, is_plain_turn(house, turn))
                self.assert_truth(expected, is_plain_turn(house, turned_about(turn)))
            self.assert_truth(True, is_plain_turn(house, {kind: kind for kind in house[0]}))
            self.assert_truth(True, is_plain_turn(house, {kind: None for kind in house[0]}))
        self.assertEqual(met, {True, False})

    def test_joined_deed_by_deed(self):
        for house, turns, stretch in cases(361, (0, 1, 2, 5, 12)):
            told = self.assert_steady(day_brief, house, turns, stretch)
            self.assertEqual(told, plain_days.day_brief(house, turns, stretch))

    def test_single_turns(self):
        chance = random.Random(362)
        for house in nested_houses():
            turns = plain_days.plain_turns(chance, house, 2)
            begins = plain.beginning_sets(house)
            for index, turn in enumerate(turns):
                told = day_brief(house, turns, (("turn", index),))
                self.assertEqual(told, {
                    whole: {part: 0 for part in begins if set(part) <= plain_days.back(turn, whole)} for whole in begins
                })

    def test_no_turns(self):
        chance = random.Random(363)
        for house in nested_houses() + nested_random_houses(363, 10):
            for stretch in ((), random_stretch(chance, house, 10)):
                for turns in ((), ({kind: kind for kind in house[0]},)):
                    self.assertEqual(day_brief(house, turns, stretch), brief_of(house, stretch))
                self.assertEqual(day_brief(house, turns, (("turn", 0), *stretch, ("turn", 0))), brief_of(house, stretch))

    def test_it_acts_as_the_day_stretch_does(self):
        for house, turns, stretch in cases(364, (0, 3, 9)):
            brief = day_brief(house, turns, stretch)
            turned = turned_about({whole: turned_about(brief[whole]) for whole in brief})
            for amounts in many_things(house, 40):
                expected = plain_days.acted(house, turns, stretch, amounts)
                self.assertEqual(acted_by_days(house, brief, amounts), expected)
                self.assertEqual(acted_by_days(house, turned, turned_about(amounts)), expected)
            self.assertEqual(self.assert_steady(acted_by_days, house, brief, amounts), expected)

    def test_equal_briefs_do_the_same(self):
        chance = random.Random(365)
        met = set()
        for house in nested_houses() + nested_random_houses(365, 4):
            turns = plain_days.plain_turns(chance, house, chance.randint(1, 3))
            stretches = [plain_days.random_day_stretch(chance, house, turns, chance.randint(0, 4)) for _ in range(5)]
            stretches.append(stretches[0][::-1])
            stretches.extend([(("turn", 0),) * 3, (("turn", 0),) * 4])
            for one, other in itertools.combinations(stretches, 2):
                same = all(
                    plain_days.acted(house, turns, one, amounts) == plain_days.acted(house, turns, other, amounts)
                    for amounts in many_things(house, 20)
                )
                met.add((same, one == other))
                self.assertEqual(day_brief(house, turns, one) == day_brief(house, turns, other), same)
        self.assertTrue({(True, False), (False, False)} <= met)

    def test_turns_alone(self):
        chance = random.Random(366)
        for house in nested_houses()[::2] + nested_random_houses(366, 6):
            turns = plain_days.plain_turns(chance, house, 4)
            for length in (1, 4, 50):
                stretch = tuple(("turn", chance.randrange(4)) for _ in range(length))
                brief = day_brief(house, turns, stretch)
                self.assertEqual(brief, plain_days.day_brief(house, turns, stretch))
                self.assertEqual({number for row in brief.values() for number in row.values()}, {0})

    def test_the_bounds(self):
        chance = random.Random(367)
        for house in [APART, *nested_random_houses(367, 3)]:
            turns = plain_days.plain_turns(chance, house, 2)
            turns = turns + tuple(dict(zip(house[0], chance.sample(house[0], len(house[0])))) for _ in range(2) if house == APART)
            for turned in (True, False):
                stretch = random_stretch(chance, house, 200)
                if turned:
                    stretch = plain_days.random_day_stretch(chance, house, turns, 200)
                brief = day_brief(house, turns, stretch)
                for many in (0, 3):
                    amounts = {kind: many for kind in house[0]}
                    self.assertEqual(acted_by_days(house, brief, amounts), plain_days.acted(house, turns, stretch, amounts))
                great = acted_by_days(house, brief, {kind: 10 ** 9 for kind in house[0]})
                self.assertTrue(all(number >= 0 for number in great.values()))

    def test_turns_that_are_not_plain(self):
        wrong = {"a": "b", "b": "a"}
        right = {"a": "a", "b": "b"}
        for turns, index in (((wrong,), 0), ((right, wrong), 1), ((right, right, wrong, wrong), 2), ((wrong, right), 0)):
            for stretch in ((), (("put", "a"),), tuple(("turn", at) for at in range(len(turns)))):
                self.assert_raises(NoBrief, {"index": index}, day_brief, AB, turns, stretch)
        chance = random.Random(368)
        for house in nested_houses() + nested_random_houses(368, 10):
            turns = plain_days.random_turns(chance, house, 4)
            found = [index for index, turn in enumerate(turns) if not plain_days.is_plain_turn(house, turn)]
            if found:
                self.assert_raises(NoBrief, {"index": found[0]}, day_brief, house, turns, ())

    def test_houses_that_are_not_nested(self):
        # Ahead of turns that are not plain.
        for house in [FORKED, CROSSED, GREATEST] + random_houses(369, 20):
            forks = plain.forks(house)
            if forks:
                perish = {kind: None for kind in house[0]}
                turned = dict(zip(house[0], house[0][::-1]))
                for turns in ((), (perish,), (turned,), (perish, turned)):
                    self.assert_raises(NotNested, {"fork": forks[0]}, day_brief, house, turns, ())


if __name__ == "__main__":
    unittest.main()
