"""[37]: other rules than best first for what calls take."""

import itertools
import random
import unittest

from calledbest.choices import best_choice, is_choice, parting_log, there_by, unsteady
from calledbest.forms import is_name, is_plain_log
from calledbest.play import there_at
from calledbest.wander import mended
from tests import plain
from tests.helpers import (
    AB, CROSSED, FORKED, GREATEST, ONE, CallCase, any_values, mends_of, random_houses, random_log, small_houses,
    turned_about,
)


def keys_of(house):
    """Return the list of all keys of a choice."""
    return [
        (call, part) for call in house[1] for size in range(len(call) + 1) for part in itertools.combinations(call, size)
    ]


def random_choice(chance, house):
    """Return any choice, its keys in any order."""
    keys = keys_of(house)
    chance.shuffle(keys)
    return {(call, part): chance.choice([None, *part]) for call, part in keys}


def ordered_choice(chance, house):
    """Return a choice by which each call takes the first kind by an order of its own, kinds being left out of it."""
    orders = {call: chance.sample(call, chance.randint(0, len(call))) for call in house[1]}
    return {(call, part): ([kind for kind in orders[call] if kind in part] + [None])[0] for call, part in keys_of(house)}


def unsteady_keys(house, choice):
    """Return the ascending list of the tuples with a kind more of which the choice makes a third thing."""
    found = []
    for (call, part), chosen in choice.items():
        for kind in set(call) - set(part):
            more = tuple(other for other in call if other in set(part) | {kind})
            if choice[(call, more)] != kind and choice[(call, more)] != chosen:
                found.append((call, part, kind))
    return sorted(found)


class ChoicesTest(CallCase):

    def test_by_hand(self):
        call = ("a", "b")
        choice = {(call, ()): None, (call, ("a",)): "a", (call, ("b",)): "b", (call, call): "a", (("b",), ()): None, (("b",), ("b",)): "b"}
        self.assertEqual(self.assert_steady(best_choice, AB), choice)
        self.assertIsNone(unsteady(AB, choice))
        self.assertIsNone(parting_log(AB, choice))
        log = (("put", "x", "b"), ("put", "y", "a"), ("call", call))
        self.assertEqual(there_by(AB, choice, log), ["x"])
        self.assertEqual(there_by(AB, {**choice, (call, call): "b"}, log), ["y"])
        self.assertEqual(there_by(AB, {**choice, (call, call): None}, log), ["x", "y"])
        self.assertEqual(unsteady(AB, {**choice, (call, call): None}), (call, ("a",), "b"))
        self.assertIsNone(unsteady(AB, {**choice, (call, ()): None, (call, call): "b"}))

    def test_best_choice(self):
        chance = random.Random(210)
        for house in small_houses() + random_houses(210, 20) + [GREATEST]:
            choice = self.assert_steady(best_choice, house)
            self.assert_truth(True, is_choice(house, choice))
            self.assertEqual(choice, {(call, part): part[0] if part else None for call, part in keys_of(house)})
            self.assertIsNone(unsteady(house, choice))
            self.assertIsNone(parting_log(house, choice))
            log = random_log(chance, house, 30)
            self.assertEqual(there_by(house, choice, log), [name for name, kind in there_at(house, log, 30)])

    def test_there_by(self):
        chance = random.Random(211)
        for house in small_houses() + random_houses(211, 30) + [GREATEST]:
            choice = random_choice(chance, house)
            for length in (0, 7, 30):
                log = random_log(chance, house, length, chance.choice([True, False]))
                names = [name for name, kind in plain.chosen(house, choice, log)]
                self.assertEqual(self.assert_steady(there_by, house, choice, log), names)
        for house in (CROSSED, GREATEST):
            log = random_log(chance, house, 200)
            choice = random_choice(chance, house)
            self.assertEqual(there_by(house, choice, log), [name for name, kind in plain.chosen(house, choice, log)])

    def test_all_choices_of_two_kinds(self):
        call = ("a", "b")
        house = (call, (call,))
        steady = 0
        for one, other, both in itertools.product((None, "a"), (None, "b"), (None, "a", "b")):
            choice = {(call, ()): None, (call, ("a",)): one, (call, ("b",)): other, (call, call): both}
            self.assert_truth(True, is_choice(house, choice))
            steady += self.hold(house, choice)
        self.assertEqual(steady, 5)

    def hold(self, house, choice):
        """What is unsteady, and the log that shows it; return whether the choice is steady."""
        found = unsteady_keys(house, choice)
        told = self.assert_steady(unsteady, house, choice)
        parting = self.assert_steady(parting_log, house, choice)
        if not found:
            self.assertIsNone(told)
            self.assertIsNone(parting)
            return True
        self.assertEqual(told, found[0])
        log, mend = parting
        self.assertIs(parting.__class__, tuple)
        self.hold_mend(house, log, mend)
        one = {name for name, kind in plain.chosen(house, choice, log)}
        other = {name for name, kind in plain.chosen(house, choice, mended(log, mend))}
        self.assertGreater(len(one ^ other), 1)
        return False

    def hold_mend(self, house, log, mend):
        """The log is plain, and the mend is one of it, by which it stays plain."""
        self.assert_truth(True, is_plain_log(house, log))
        self.assert_truth(True, is_plain_log(house, mended(log, mend)))
        self.assertIs(mend.__class__, tuple)
        self.assertIn(mend[0], ("more", "less"))
        self.assertIn(mend[1], range(len(log) + (mend[0] == "more")))
        self.assertEqual(len(mend), 3 if mend[0] == "more" else 2)
        if mend[0] == "more" and mend[2][0] == "put":
            self.assertTrue(is_name(mend[2][1]))
            self.assertNotIn(mend[2][1], [row[1] for row in log if row[0] == "put"])

    def test_any_choice(self):
        chance = random.Random(212)
        steady = 0
        for house in small_houses() + random_houses(212, 40) + [GREATEST]:
            for choice in (random_choice(chance, house), ordered_choice(chance, house)):
                steady += self.hold(house, choice)
                self.assertEqual(unsteady(house, turned_about(choice)), unsteady(house, choice))
            self.assertIsNone(unsteady(house, choice))
            changed = self.changed_somewhere(chance, house, choice)
            self.hold(house, changed)
        self.assertGreater(steady, 100)

    def changed_somewhere(self, chance, house, choice):
        call, part = chance.choice(keys_of(house))
        return {**choice, (call, part): chance.choice([None, *part])}

    def test_by_a_steady_choice_one_thing_wanders(self):
        chance = random.Random(213)
        for house in small_houses()[::4] + random_houses(213, 15):
            choice = ordered_choice(chance, house)
            log = random_log(chance, house, 12)
            for mend in mends_of(chance, house, log):
                one = {name for name, kind in plain.chosen(house, choice, log)}
                other = {name for name, kind in plain.chosen(house, choice, mended(log, mend))}
                self.assertLessEqual(len(one ^ other), 1)

    def test_is_choice(self):
        chance = random.Random(214)
        for house in (ONE, AB, FORKED, CROSSED):
            choice = random_choice(chance, house)
            self.assert_truth(True, is_choice(house, choice))
            for call, part in choice:
                less = {key: choice[key] for key in choice if key != (call, part)}
                self.assert_truth(False, is_choice(house, less))
                for key in ((call, ("zz",)), (call, part + part[:1] or ("zz",)), (("zz",), part), (call,), call, None, 0, ("zz", call, part)):
                    self.assert_truth(False, is_choice(house, {**less, key: None}))
                    self.assert_truth(False, is_choice(house, {**choice, key: None}))
                for kind in ("a", "b", "zz", 0, True, False, (), ("a",), ["a"], {"a": 1}):
                    right = kind in part
                    self.assert_truth(right, is_choice(house, {**choice, (call, part): kind}))
            self.assert_truth(False, is_choice(house, list(choice.items())))
            self.assert_truth(False, is_choice(house, tuple(choice)))
            for value in any_values():
                self.assert_truth(False, is_choice(house, value))
        self.assert_truth(False, is_choice(AB, best_choice(FORKED)))
        self.assert_truth(True, is_choice(GREATEST, random_choice(chance, GREATEST)))


if __name__ == "__main__":
    unittest.main()
