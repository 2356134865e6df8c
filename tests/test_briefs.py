"""[25], and what [7] says of briefs."""

import copy
import itertools
import random
import unittest

from calledbest.begins import beginning_sets
from calledbest.briefs import acted_by, brief_of, is_brief, joined
from calledbest.errors import NotNested
from tests import plain
from tests.helpers import (
    AB, CROSSED, FORKED, GREATEST, ONE, CallCase, all_amounts, any_values, deeds_of, nested_random_houses, random_houses,
    random_stretch, small_houses,
)

TREE = (("a", "b", "c"), (("a", "c"), ("b", "c")))
APART = (tuple("abcdef"), tuple((kind,) for kind in "abcdef"))


def nested_houses():
    """Return all small nested houses."""
    return [house for house in small_houses() if plain.tails_agree(house)]


def turned_about(brief):
    """Return the brief with its keys in the other order."""
    return {whole: {part: brief[whole][part] for part in reversed(list(brief[whole]))} for whole in reversed(list(brief))}


def random_brief(chance, house):
    """Return any brief, its keys in any order: not less for what is within."""
    begins = plain.beginning_sets(house)
    chance.shuffle(begins)
    brief = {}
    for whole in begins:
        parts = [part for part in begins if set(part) <= set(whole)]
        numbers = {part: chance.randint(-5, 5) for part in parts}
        brief[whole] = {
            part: max(numbers[other] for other in parts if set(part) <= set(other)) for part in parts
        }
    return brief


class BriefsTest(CallCase):

    def test_by_hand(self):
        brief = brief_of(TREE, (("put", "c"), ("call", ("a", "c"))))
        self.assertEqual(brief[("a", "b")], {(): 0, ("a",): -1, ("a", "b"): -1, ("b",): 0})
        self.assertEqual(brief[("a", "b", "c")][("a",)], 0)
        self.assertEqual(acted_by(TREE, brief, {"a": 2, "b": 1, "c": 0}), {"a": 1, "b": 1, "c": 1})
        self.assertEqual(brief_of(ONE, (("put", "a"), ("call", ("a",)))), {(): {(): 0}, ("a",): {(): 0, ("a",): 0}})
        self.assertEqual(brief_of(ONE, (("call", ("a",)), ("put", "a"))), {(): {(): 0}, ("a",): {(): 1, ("a",): 0}})

    def test_the_empty_stretch(self):
        for house in nested_houses() + [APART]:
            begins = plain.beginning_sets(house)
            zeros = {whole: {part: 0 for part in begins if set(part) <= set(whole)} for whole in begins}
            self.assertEqual(self.assert_steady(brief_of, house, ()), zeros)

    def test_single_deeds(self):
        for house in nested_houses() + nested_random_houses(90, 20):
            begins = plain.beginning_sets(house)
            for deed in deeds_of(house):
                told = self.assert_steady(brief_of, house, (deed,))
                for whole in begins:
                    for part in begins:
                        if set(part) <= set(whole):
                            self.assertEqual(told[whole][part], self.number(deed, whole, part))

    def number(self, deed, whole, part):
        if deed[0] == "put":
            return 1 if deed[1] in whole else 0
        return -1 if set(deed[1]) & set(whole) and set(deed[1]) & set(part) else 0

    def test_the_least_numbers(self):
        chance = random.Random(91)
        for house in nested_houses():
            for length in (1, 2, 3):
                stretch = random_stretch(chance, house, length)
                told = self.assert_steady(brief_of, house, stretch)
                self.assertEqual(told, plain.brief(house, stretch))
                self.assert_truth(True, is_brief(house, told))

    def test_all_short_stretches(self):
        for house in (ONE, AB, (("b", "a"), (("a",), ("b",)))):
            for length in range(5):
                for stretch in itertools.product(deeds_of(house), repeat=length):
                    self.assertEqual(brief_of(house, stretch), plain.brief(house, stretch))

    def deed_by_deed(self, house, stretch):
        """Return the brief of a stretch by the rules of [25]: those of its deeds, joined one behind the other."""
        begins = plain.beginning_sets(house)
        brief = {whole: {part: 0 for part in begins if set(part) <= set(whole)} for whole in begins}
        for deed in stretch:
            later = {whole: {part: self.number(deed, whole, part) for part in brief[whole]} for whole in begins}
            brief = plain.joined(house, brief, later)
        return brief

    def test_deed_by_deed(self):
        chance = random.Random(100)
        for house in nested_houses() + nested_random_houses(100, 25):
            for length in (0, 1, 2, 5, 12):
                stretch = random_stretch(chance, house, length)
                self.assertEqual(self.assert_steady(brief_of, house, stretch), self.deed_by_deed(house, stretch))
        star = (tuple("abcdef"), tuple(sorted([("f",)] + [(kind, "f") for kind in "abcde"])))
        for house in (star, APART, (tuple("fedcba"), (tuple("fedcba"),))):
            for length in (6, 60):
                stretch = random_stretch(chance, house, length)
                self.assertEqual(brief_of(house, stretch), self.deed_by_deed(house, stretch))

    def test_many_short_stretches(self):
        # Four kinds, each with a call of its own: kinds are told of one by one.
        house = (tuple("abcd"), tuple((kind,) for kind in "abcd"))
        stretch = (("put", "a"), ("put", "b"), ("put", "c"), ("call", ("a",)), ("call", ("b",)))
        brief = brief_of(house, stretch)
        self.assertEqual(brief, self.deed_by_deed(house, stretch))
        self.assertEqual(brief[tuple("abcd")], {part: int(True) for part in brief})
        for length in range(3):
            for short in itertools.product(deeds_of(house), repeat=length):
                self.assertEqual(brief_of(house, short), self.deed_by_deed(house, short))

    def test_calls_alone_and_puts_alone(self):
        # No more things than calls can take tell all: two hundred calls take two hundred of each kind.
        for house in (ONE, AB, TREE):
            for call in house[1]:
                for stretch in ((("call", call),) * 200, (("call", call),) * 100 + (("put", call[0]),) * 100):
                    brief = brief_of(house, stretch)
                    self.assertEqual(brief, self.deed_by_deed(house, stretch))
                    for many in (0, 99, 100, 200, 201, 10 ** 9):
                        amounts = {kind: many for kind in house[0]}
                        self.assertEqual(acted_by(house, brief, amounts), plain.acted(house, stretch, amounts))

    def test_it_acts_as_the_stretch_does(self):
        chance = random.Random(92)
        for house in nested_houses() + nested_random_houses(92, 30):
            stretch = random_stretch(chance, house, chance.choice([1, 4, 12]))
            brief = brief_of(house, stretch)
            for amounts in chance.sample(all_amounts(house, 3), min(6, 4 ** len(house[0]))):
                expected = plain.acted(house, stretch, amounts)
                self.assertEqual(self.assert_steady(acted_by, house, brief, amounts), expected)
                self.assertEqual(self.assert_steady(acted_by, house, turned_about(brief), amounts), expected)

    def test_equal_briefs_are_alike_acts(self):
        chance = random.Random(93)
        met = set()
        for house in nested_houses():
            stretches = [random_stretch(chance, house, chance.randint(0, 3)) for _ in range(6)]
            stretches.append(stretches[0][::-1])
            for one, other in itertools.combinations(stretches, 2):
                alike = plain.alike(house, one, other)
                met.add((alike, one == other))
                self.assertEqual(brief_of(house, one) == brief_of(house, other), alike)
        self.assertIn((True, False), met)
        self.assertIn((False, False), met)

    def test_joined_briefs_of_stretches(self):
        chance = random.Random(94)
        for house in nested_houses() + nested_random_houses(94, 15):
            stretch = random_stretch(chance, house, 8)
            for at in (0, 3, 8):
                one, other = brief_of(house, stretch[:at]), brief_of(house, stretch[at:])
                told = self.assert_steady(joined, house, one, turned_about(other))
                self.assertEqual(told, brief_of(house, stretch))

    def test_joined_briefs_of_any_sort(self):
        chance = random.Random(95)
        for house in nested_houses() + nested_random_houses(95, 8):
            one, other = random_brief(chance, house), random_brief(chance, house)
            self.assertTrue(is_brief(house, one))
            self.assertEqual(self.assert_steady(joined, house, one, other), plain.joined(house, one, other))
            self.assertEqual(self.assert_steady(joined, house, one, one), plain.joined(house, one, one))

    def test_the_bounds(self):
        chance = random.Random(96)
        for house in [APART, (tuple("fedcba"), (tuple("fedcba"),)), *nested_random_houses(96, 3)]:
            stretch = random_stretch(chance, house, 200)
            brief = brief_of(house, stretch)
            self.assertTrue(is_brief(house, brief))
            for number in (0, 3, 10 ** 9):
                amounts = {kind: number for kind in house[0]}
                self.assertEqual(acted_by(house, brief, amounts), plain.acted(house, stretch, amounts))
            halves = joined(house, brief_of(house, stretch[:100]), brief_of(house, stretch[100:]))
            self.assertEqual(halves, brief)

    def test_eight_calls(self):
        house = (tuple("abcdef"), tuple(sorted([tuple("abcdef"[at:]) for at in range(6)])))
        stretch = random_stretch(random.Random(97), house, 60)
        for amounts in ({kind: 0 for kind in house[0]}, {kind: 2 for kind in house[0]}):
            self.assertEqual(acted_by(house, brief_of(house, stretch), amounts), plain.acted(house, stretch, amounts))

    def test_is_brief(self):
        chance = random.Random(98)
        for house in nested_houses()[::3] + [ONE, AB, TREE]:
            for brief in (brief_of(house, random_stretch(chance, house, 5)), random_brief(chance, house)):
                self.assert_truth(True, is_brief(house, brief))
                self.assert_truth(True, is_brief(house, turned_about(brief)))
                self.hold_wrong_briefs(house, brief)
            for value in any_values():
                self.assert_truth(False, is_brief(house, value))
        self.assert_truth(True, is_brief(ONE, {("a",): {("a",): -(10 ** 40), (): 10 ** 40}, (): {(): 7}}))

    def hold_wrong_briefs(self, house, brief):
        kept = copy.deepcopy(brief)
        for whole in brief:
            self.assert_truth(False, is_brief(house, {key: brief[key] for key in brief if key != whole}))
            for row in (None, [], {}, list(brief[whole]), 0, {**brief[whole], "a": 0}, {**brief[whole], ("q",): 0}):
                self.assert_truth(False, is_brief(house, {**brief, whole: row}))
            for part in brief[whole]:
                for number in (None, True, False, "1", (1,), [1]):
                    self.assert_truth(False, is_brief(house, {**brief, whole: {**brief[whole], part: number}}))
                less = {key: number for key, number in brief[whole].items() if key != part}
                self.assert_truth(False, is_brief(house, {**brief, whole: less}))
                self.assert_truth(False, is_brief(house, {**brief, whole: {**less, None: 0}}))
                below = [key for key in brief[whole] if set(key) < set(part)]
                if below:
                    least = min(brief[whole][key] for key in below)
                    for more in (0, 1):
                        row = {**brief[whole], part: least + more}
                        above = all(row[key] <= row[part] for key in row if set(part) < set(key))
                        self.assert_truth(above and more == 0, is_brief(house, {**brief, whole: row}))
        for wrong in ({**brief, "a": {}}, {**brief, ("q",): {}}, list(brief.items()), tuple(brief)):
            self.assert_truth(False, is_brief(house, wrong))
        self.assertEqual(brief, kept)

    def test_houses_that_are_not_nested(self):
        for house in [FORKED, CROSSED, GREATEST] + random_houses(99, 30):
            forks = plain.forks(house)
            if not forks:
                continue
            begins = beginning_sets(house)
            zeros = {whole: {part: 0 for part in begins if set(part) <= set(whole)} for whole in begins}
            amounts = {kind: 0 for kind in house[0]}
            self.assert_raises(NotNested, {"fork": forks[0]}, brief_of, house, ())
            self.assert_raises(NotNested, {"fork": forks[0]}, joined, house, zeros, zeros)
            self.assert_raises(NotNested, {"fork": forks[0]}, acted_by, house, zeros, amounts)
            self.assert_raises(NotNested, {"fork": forks[0]}, is_brief, house, zeros)
        for value in any_values():
            self.assert_raises(NotNested, {"fork": plain.forks(FORKED)[0]}, is_brief, FORKED, value)


if __name__ == "__main__":
    unittest.main()
