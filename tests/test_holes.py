"""[41]: further deeds that stood anywhere."""

import random
import unittest

from calledbest.errors import NoIndex, NoNumber, TooMany
from calledbest.forms import is_stretch
from calledbest.holes import holes_range, holes_stretch, sure_served, taken_perhaps
from tests import plain
from tests.helpers import (
    AB, CROSSED, FORKED, GREATEST, ONE, CallCase, any_values, deeds_of, random_houses, random_stretch, small_houses,
    turned_about,
)

NOTHING = {"b": 0, "a": 0}
STRETCH = (("put", "a"), ("call", ("a", "b")))


def cases(seed, houses, lengths):
    """Return the list of houses, amounts, stretches, sorts and mosts, small enough to try all places."""
    chance = random.Random(seed)
    found = []
    for house in houses:
        for length in lengths:
            amounts = turned_about({kind: chance.randint(0, 2) for kind in sorted(house[0])})
            deeds = deeds_of(house)
            sorts = tuple(sorted(chance.sample(deeds, min(len(deeds), chance.choice([0, 1, 2, 3])))))
            most = chance.randint(0, 3) if len(sorts) < 3 else chance.randint(0, 2)
            found.append((house, amounts, random_stretch(chance, house, length), sorts, most))
    return found


def embeds(stretch, longer, sorts):
    """Tell whether longer is the stretch with further deeds of sorts."""
    if not longer:
        return not stretch
    if stretch and longer[0] == stretch[0] and embeds(stretch[1:], longer[1:], sorts):
        return True
    return longer[0] in sorts and embeds(stretch, longer[1:], sorts)


class HolesTest(CallCase):

    def test_by_hand(self):
        sorts = (("call", ("b",)), ("put", "b"))
        self.assertEqual(holes_range(AB, NOTHING, STRETCH, sorts, 2, ("a", "b")), (0, 2))
        self.assertEqual(
            [sure_served(AB, NOTHING, STRETCH, (("call", ("a", "b")),), most, 1) for most in (0, 1)], ["surely", "perhaps"]
        )
        self.assertEqual(taken_perhaps(AB, NOTHING, STRETCH, (("call", ("a", "b")),), 1, 1), ["a", None])
        self.assertEqual(taken_perhaps(AB, {"a": 0, "b": 1}, STRETCH, (("call", ("a", "b")),), 1, 1), ["a", "b"])
        self.assertEqual(taken_perhaps(AB, {"a": 0, "b": 1}, STRETCH, (("call", ("a", "b")),), 2, 1), ["a", "b", None])
        self.assertEqual(sure_served(AB, NOTHING, (("call", ("b",)),), (("put", "a"),), 3, 0), "never")
        told = holes_stretch(ONE, {"a": 0}, (("call", ("a",)),), (("put", "a"),), 1, ("a",), 1)
        self.assertEqual(told, (("call", ("a",)), ("put", "a")))
        told = holes_stretch(ONE, {"a": 0}, (("call", ("a",)),), (("put", "a"),), 1, ("a",), 0)
        self.assertIn(told, ((("call", ("a",)),), (("put", "a"), ("call", ("a",)))))

    def hold_all(self, house, amounts, stretch, sorts, most):
        """What is told is what comes about if further deeds are put in at all places."""
        marked = plain.with_further(stretch, sorts, most)
        ends = {
            tuple(deed for deed, mark in way): plain.acted(house, tuple(deed for deed, mark in way), amounts) for way in marked
        }
        for part in plain.sets(house):
            counts = {plain.count(end, part) for end in ends.values()}
            told = self.assert_steady(holes_range, house, amounts, stretch, sorts, most, part)
            self.assertEqual(told, (min(counts), max(counts)))
            # [8]: all integers between them come about, too.
            self.assertEqual(counts, set(range(told[0], told[1] + 1)))
            for number in counts:
                longer = self.assert_steady(holes_stretch, house, amounts, stretch, sorts, most, part, number)
                self.assertEqual(plain.count(ends[longer], part), number)
            for number in (told[0] - 1, told[1] + 1, -1 - 10 ** 30, 10 ** 30):
                self.assert_raises(
                    NoNumber, {"number": number}, holes_stretch, house, amounts, stretch, sorts, most, part, number
                )
        for index in plain.indexes_of(stretch, "call"):
            taken = {plain.kinds_taken_at(house, way, amounts, index) for way in marked}
            self.hold_call((house, amounts, stretch, sorts, most, index), taken)
        return len(ends)

    def hold_call(self, arguments, taken):
        told = self.assert_steady(taken_perhaps, *arguments)
        self.assertEqual(told, [kind for kind in (*arguments[0][0], None) if kind in taken])
        expected = "perhaps"
        if None not in taken:
            expected = "surely"
        elif taken == {None}:
            expected = "never"
        self.assertEqual(self.assert_steady(sure_served, *arguments), expected)

    def test_all_places(self):
        sizes = set()
        for case in cases(300, small_houses()[::2] + random_houses(300, 8), (0, 1, 3)):
            sizes.add(self.hold_all(*case))
        self.assertGreater(len(sizes), 15)

    def test_three_further_deeds_of_several_sorts(self):
        chance = random.Random(301)
        for house in (ONE, AB, FORKED, CROSSED):
            sorts = tuple(sorted(deeds_of(house)))[:4]
            for amounts in plain.amounts_up_to(house, 1)[::3]:
                self.hold_all(house, amounts, random_stretch(chance, house, 3), sorts, 3)

    def test_no_sorts_and_most_none(self):
        chance = random.Random(302)
        for house in small_houses()[::3] + [GREATEST]:
            amounts = {kind: chance.randint(0, 3) for kind in house[0]}
            for stretch in ((), random_stretch(chance, house, 20)):
                behind = plain.acted(house, stretch, amounts)
                for sorts, most in (((), 0), ((), 3), (tuple(sorted(deeds_of(house))), 0)):
                    for part in plain.sets(house):
                        number = plain.count(behind, part)
                        self.assertEqual(holes_range(house, amounts, stretch, sorts, most, part), (number, number))
                        self.assertEqual(holes_stretch(house, amounts, stretch, sorts, most, part, number), stretch)
                    for index in plain.indexes_of(stretch, "call"):
                        self.assertEqual(len(taken_perhaps(house, amounts, stretch, sorts, most, index)), 1)

    def test_the_empty_part_and_the_empty_stretch(self):
        for most in range(4):
            self.assertEqual(holes_range(AB, NOTHING, STRETCH, (("put", "a"),), most, ()), (0, 0))
            self.assertEqual(holes_range(AB, NOTHING, (), (("put", "a"),), most, ("a", "b")), (0, most))
            self.assertEqual(holes_range(AB, {"a": 2, "b": 1}, (), (("call", ("b",)),), most, ("a", "b")), (3 - min(most, 1), 3))
            self.assertEqual(
                holes_stretch(AB, NOTHING, (), (("put", "a"),), most, ("a",), most), (("put", "a"),) * most
            )
            for number in (-1, 1):
                self.assert_raises(
                    NoNumber, {"number": number}, holes_stretch, AB, NOTHING, STRETCH, (("put", "a"),), most, (), number
                )

    def test_more_than_three(self):
        # Ahead of what is wrong with an index or a number.
        for most in (4, 5, 10 ** 30):
            for sorts in ((), (("put", "a"),)):
                self.assert_raises(TooMany, {"most": 3}, holes_range, AB, NOTHING, STRETCH, sorts, most, ("a",))
                for number in (0, -1, 10 ** 30):
                    self.assert_raises(TooMany, {"most": 3}, holes_stretch, AB, NOTHING, STRETCH, sorts, most, ("a",), number)
                for index in (0, 1, 2, True, None, [1]):
                    self.assert_raises(TooMany, {"most": 3}, taken_perhaps, AB, NOTHING, STRETCH, sorts, most, index)
                    self.assert_raises(TooMany, {"most": 3}, sure_served, AB, NOTHING, STRETCH, sorts, most, index)

    def test_no_index(self):
        stretch = (("put", "a"), ("call", ("b",)), ("call", ("a", "b")), ("put", "b"))
        for value in any_values() + [3, 4, 5, (1, 2), "1"]:
            if value in (1, 2) and not isinstance(value, bool):
                self.assertEqual(taken_perhaps(AB, NOTHING, stretch, (), 3, value), ["a" if value == 2 else None])
                continue
            for function in (taken_perhaps, sure_served):
                self.assert_raises(NoIndex, {"index": value}, function, AB, NOTHING, stretch, (("put", "a"),), 3, value)
                self.assert_raises(NoIndex, {"index": value}, function, AB, NOTHING, (), (("put", "a"),), 0, value)

    def test_a_hundred_and_two_hundred_deeds(self):
        chance = random.Random(303)
        for house in random_houses(303, 1) + [GREATEST, CROSSED]:
            for length, many in ((100, 0), (100, 2), (200, 10 ** 9)):
                amounts = {kind: many for kind in house[0]}
                stretch = random_stretch(chance, house, length)
                sorts = tuple(sorted(deeds_of(house)))
                part = chance.choice(plain.sets(house))
                least, greatest = holes_range(house, amounts, stretch, sorts, 3, part)
                for number in range(least, greatest + 1):
                    longer = holes_stretch(house, amounts, stretch, sorts, 3, part, number)
                    self.assertTrue(is_stretch(house, longer) and len(longer) <= length + 3 and embeds(stretch, longer, sorts))
                    self.assertEqual(plain.count(plain.acted(house, longer, amounts), part), number)
                for number in (least - 1, greatest + 1):
                    self.assert_raises(
                        NoNumber, {"number": number}, holes_stretch, house, amounts, stretch, sorts, 3, part, number
                    )
                self.hold_samples(chance, (house, amounts, stretch, sorts, 3), part, (least, greatest))

    def hold_samples(self, chance, arguments, part, ends):
        """What comes about by some further deeds lies between the ends, and among what can be taken."""
        house, amounts, stretch, sorts, most = arguments
        index = chance.choice(plain.indexes_of(stretch, "call"))
        taken = taken_perhaps(house, amounts, stretch, sorts, most, index)
        for _ in range(15):
            marked = [(deed, at) for at, deed in enumerate(stretch)]
            for _ in range(most):
                marked.insert(chance.randrange(len(marked) + 1), (chance.choice(sorts), None))
            number = plain.count(plain.acted(house, tuple(deed for deed, mark in marked), amounts), part)
            self.assertTrue(ends[0] <= number <= ends[1])
            self.assertIn(plain.kinds_taken_at(house, tuple(marked), amounts, index), taken)

    def test_many_things_of_a_kind(self):
        # A further call far ahead is felt behind, only as far as things lack.
        stretch = (("put", "a"), ("call", ("a", "b"))) * 100
        sorts = (("call", ("a", "b")),)
        self.assertEqual(holes_range(AB, {"a": 0, "b": 10 ** 9}, stretch, sorts, 3, ("a", "b")), (10 ** 9 - 3, 10 ** 9))
        self.assertEqual(taken_perhaps(AB, {"a": 0, "b": 10 ** 9}, stretch, sorts, 3, 199), ["a", "b"])
        self.assertEqual(sure_served(AB, {"a": 0, "b": 2}, stretch, sorts, 3, 199), "perhaps")
        self.assertEqual(sure_served(AB, {"a": 0, "b": 3}, stretch, sorts, 3, 199), "surely")


if __name__ == "__main__":
    unittest.main()
