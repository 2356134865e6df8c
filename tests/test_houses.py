"""[13]: what a house tells, and houses made of it."""

import itertools
import unittest

from calledbest.errors import NoCall, NoKind, TooMany
from calledbest.forms import is_house
from calledbest.houses import accepting, part_of, renamed_house, reordered, tail_of, with_call
from tests.helpers import AB, GREATEST, ONE, CallCase, any_values, random_houses, small_houses


class HousesTest(CallCase):

    def test_accepting_by_hand(self):
        self.assertEqual(accepting(AB, "a"), (("a", "b"),))
        self.assertEqual(accepting(AB, "b"), (("a", "b"), ("b",)))
        self.assertEqual(accepting(ONE, "a"), (("a",),))
        self.assertEqual(accepting(GREATEST, "e"), (("e", "c"), GREATEST[0]))

    def test_accepting_any_house(self):
        for house in small_houses() + random_houses(1, 50):
            for kind in house[0]:
                told = accepting(house, kind)
                self.assertIs(told.__class__, tuple)
                self.assertEqual(list(told), sorted(told))
                for call in house[1]:
                    self.assertEqual(call in told, kind in call)
                self.assertTrue(set(told) <= set(house[1]))

    def test_accepting_no_kind(self):
        for kind in any_values():
            if kind not in ("a", "b"):
                self.assert_raises(NoKind, {"kind": kind}, accepting, AB, kind)

    def test_tail_by_hand(self):
        self.assertEqual(tail_of(AB, ("a", "b"), "a"), ("b",))
        self.assertEqual(tail_of(AB, ("a", "b"), "b"), ())
        self.assertEqual(tail_of(AB, ("b",), "b"), ())
        self.assertEqual(tail_of(GREATEST, GREATEST[0], "d"), ("c", "b", "a"))
        self.assertEqual(tail_of(GREATEST, ("f", "d", "a"), "f"), ("d", "a"))

    def test_tail_any_house(self):
        for house in small_houses() + random_houses(2, 30):
            for call in house[1]:
                for kind in call:
                    place = house[0].index(kind)
                    behind = tuple(other for other in house[0][place + 1:] if other in call)
                    self.assertEqual(tail_of(house, call, kind), behind)

    def test_tail_errors_and_their_order(self):
        for value in any_values():
            if value != ("b",):
                self.assert_raises(NoCall, {"call": value}, tail_of, AB, value, "a")
                self.assert_raises(NoCall, {"call": value}, tail_of, AB, value, value)
            if value != "b":
                self.assert_raises(NoKind, {"kind": value}, tail_of, AB, ("b",), value)
        self.assert_raises(NoCall, {"call": ("a",)}, tail_of, AB, ("a",), "a")
        self.assert_raises(NoKind, {"kind": "a"}, tail_of, AB, ("b",), "a")
        call = ["a", "b"]
        self.assert_raises(NoCall, {"call": call}, tail_of, AB, call, "a")

    def test_reordered(self):
        self.assertEqual(reordered(AB, ("b", "a")), (("b", "a"), (("b",), ("b", "a"))))
        self.assertEqual(reordered(ONE, ("a",)), ONE)
        for house in small_houses() + random_houses(3, 20, 4):
            for kinds in itertools.permutations(house[0]):
                told = reordered(house, kinds)
                self.assertTrue(is_house(told))
                self.assertEqual(told[0], kinds)
                self.assertEqual({frozenset(call) for call in told[1]}, {frozenset(call) for call in house[1]})
                self.assertEqual(len(told[1]), len(house[1]))
                self.assertEqual(reordered(told, house[0]), house)

    def test_renamed_house(self):
        self.assertEqual(renamed_house(AB, {"b": "a", "a": "b"}), (("b", "a"), (("a",), ("b", "a"))))
        self.assertEqual(renamed_house(ONE, {"a": "zzzzzz"}), (("zzzzzz",), (("zzzzzz",),)))
        for house in small_houses() + random_houses(4, 30):
            names = dict(zip(sorted(house[0], reverse=True), ["b", "z", "a", "kinds", "call", "q"]))
            told = self.assert_steady(renamed_house, house, names)
            self.assertTrue(is_house(told))
            self.assertEqual(told[0], tuple(names[kind] for kind in house[0]))
            self.assertEqual(set(told[1]), {tuple(names[kind] for kind in call) for call in house[1]})
            back = {new: old for old, new in names.items()}
            self.assertEqual(renamed_house(told, back), house)

    def test_part_of(self):
        self.assertEqual(part_of(AB, (("b",),)), (("b",), (("b",),)))
        self.assertEqual(part_of(GREATEST, (("b", "a"), ("e", "c"))), (("e", "c", "b", "a"), (("b", "a"), ("e", "c"))))
        for house in small_houses() + random_houses(5, 20):
            for size in range(1, len(house[1]) + 1):
                for calls in list(itertools.combinations(house[1], size))[:20]:
                    told = part_of(house, calls)
                    self.assertTrue(is_house(told))
                    self.assertEqual(told[1], calls)
                    self.assertEqual(told[0], tuple(kind for kind in house[0] if any(kind in call for call in calls)))
            self.assertEqual(part_of(house, house[1]), house)

    def test_with_call(self):
        self.assertEqual(with_call(AB, ("a",)), (("a", "b"), (("a",), ("a", "b"), ("b",))))
        self.assertEqual(with_call(AB, ("b",)), AB)
        self.assertEqual(with_call(ONE, ("a",)), ONE)
        for house in small_houses() + random_houses(6, 40):
            for kinds in {house[0], house[0][:1], house[0][-2:], house[0][::2]}:
                if kinds in house[1]:
                    self.assertEqual(with_call(house, kinds), house)
                elif len(house[1]) < 8:
                    told = with_call(house, kinds)
                    self.assertTrue(is_house(told))
                    self.assertEqual(told, (house[0], tuple(sorted(house[1] + (kinds,)))))
                else:
                    self.assert_raises(TooMany, {"most": 8}, with_call, house, kinds)

    def test_an_eighth_and_a_ninth_call(self):
        seven = (GREATEST[0], GREATEST[1][:2] + GREATEST[1][3:])
        self.assertEqual(with_call(seven, ("c",)), GREATEST)
        self.assertEqual(with_call(GREATEST, ("c",)), GREATEST)
        self.assert_raises(TooMany, {"most": 8}, with_call, GREATEST, ("b",))


if __name__ == "__main__":
    unittest.main()
