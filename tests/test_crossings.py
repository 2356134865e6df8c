"""[20]: crossings."""

import unittest

from calledbest.crossings import crossings_of, is_crossing
from calledbest.houses import reordered
from tests import plain
from tests.helpers import AB, CROSSED, FORKED, GREATEST, ONE, CallCase, any_values, random_houses, small_houses


class CrossingsTest(CallCase):

    def test_by_hand(self):
        for house in (ONE, AB, FORKED):
            self.assertEqual(crossings_of(house), [])
        self.assertEqual(crossings_of(CROSSED), [(("a", "b"), ("a",), ("b",), "a", "b")])
        house = reordered(CROSSED, ("b", "a"))
        self.assertEqual(crossings_of(house), [(("b", "a"), ("b",), ("a",), "b", "a")])

    def test_all_crossings(self):
        for house in small_houses() + random_houses(45, 60) + [GREATEST]:
            told = self.assert_steady(crossings_of, house)
            self.assertEqual(told, plain.crossings(house))

    def test_is_crossing(self):
        found = 0
        for house in random_houses(46, 30, 4) + [CROSSED]:
            crossings = plain.crossings(house)
            found += len(crossings)
            for crossing in crossings[:5]:
                both, one, other, kind, behind = crossing
                self.assert_truth(True, is_crossing(house, crossing))
                for wrong in (
                    list(crossing), crossing[:4], crossing + ("a",), (both, other, one, kind, behind),
                    (both, one, other, behind, kind), (list(both), one, other, kind, behind), (one, both, other, kind, behind),
                ):
                    self.assert_truth(False, is_crossing(house, wrong))
            for value in any_values():
                self.assert_truth(False, is_crossing(house, value))
        self.assertGreater(found, 5)


if __name__ == "__main__":
    unittest.main()
