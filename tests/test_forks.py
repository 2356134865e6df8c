"""[19]: forks and nested houses."""

import unittest

from calledbest.errors import NotNested
from calledbest.forks import forks_of, is_fork, is_nested, next_kinds
from tests import plain
from tests.helpers import AB, CROSSED, FORKED, GREATEST, ONE, CallCase, any_values, nested_random_houses, random_houses, small_houses

NESTED = (("a", "b", "c"), (("a", "c"), ("b", "c")))


class ForksTest(CallCase):

    def houses(self):
        return small_houses() + random_houses(40, 120) + nested_random_houses(40, 60) + [GREATEST]

    def test_by_hand(self):
        self.assertEqual(forks_of(ONE), [])
        self.assertEqual(forks_of(AB), [])
        self.assertEqual(forks_of(FORKED), [(("a", "b"), ("a",), "a", "b")])
        house = (("b", "a"), (("b",), ("b", "a")))
        self.assertEqual(forks_of(house), [(("b", "a"), ("b",), "b", "a")])
        house = (("a", "b", "c"), (("a", "b"), ("a", "c")))
        self.assertEqual(forks_of(house), [(("a", "b"), ("a", "c"), "a", "b"), (("a", "c"), ("a", "b"), "a", "c")])
        # The same tail of b, but not of a.
        house = (("a", "b", "c"), (("a", "b", "c"), ("a", "c"), ("b", "c")))
        self.assertEqual(forks_of(house), [(("a", "b", "c"), ("a", "c"), "a", "b")])

    def test_all_forks(self):
        for house in self.houses():
            told = self.assert_steady(forks_of, house)
            self.assertEqual(told, plain.forks(house))

    def test_is_nested(self):
        self.assert_truth(True, is_nested(ONE))
        self.assert_truth(True, is_nested(NESTED))
        self.assert_truth(False, is_nested(CROSSED))
        for house in self.houses():
            self.assert_truth(plain.tails_agree(house), is_nested(house))

    def test_is_fork(self):
        for house in random_houses(41, 30) + [FORKED]:
            forks = plain.forks(house)
            for fork in forks:
                self.assert_truth(True, is_fork(house, fork))
                for wrong in (list(fork), fork[:3], fork + ("a",), fork[:2] + (fork[3], fork[2]), (list(fork[0]),) + fork[1:], [fork]):
                    self.assert_truth(False, is_fork(house, wrong))
                turned = (fork[1], fork[0]) + fork[2:]
                self.assert_truth(turned in forks, is_fork(house, turned))
            for value in any_values():
                self.assert_truth(False, is_fork(house, value))

    def test_next_kinds(self):
        self.assertEqual(next_kinds(ONE), {"a": None})
        self.assertEqual(next_kinds(AB), {"a": "b", "b": None})
        self.assertEqual(next_kinds(NESTED), {"a": "c", "b": "c", "c": None})
        self.assertEqual(next_kinds((("c", "b", "a"), (("b",), ("c", "a")))), {"a": None, "b": None, "c": "a"})
        for house in self.houses():
            if not plain.tails_agree(house):
                self.assert_raises(NotNested, {"fork": plain.forks(house)[0]}, next_kinds, house)
                continue
            told = self.assert_steady(next_kinds, house)
            self.assertEqual(set(told), set(house[0]))
            for call in house[1]:
                for one, behind in zip(call, call[1:] + (None,)):
                    self.assertEqual(told[one], behind)

    def test_some_houses_are_nested_and_some_are_not(self):
        told = {is_nested(house) for house in random_houses(40, 120, 6) if len(house[0]) > 3}
        self.assertEqual(told, {True, False})


if __name__ == "__main__":
    unittest.main()
