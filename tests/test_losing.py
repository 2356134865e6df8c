"""[23]: logs in which the best first costs later calls."""

import unittest

from calledbest.forms import is_plain_log
from calledbest.losing import half_log, losing_log
from calledbest.play import served_at
from tests import plain
from tests.helpers import AB, CROSSED, FORKED, GREATEST, ONE, CallCase, nested_random_houses, random_houses, small_houses


class LosingTest(CallCase):

    def hold(self, house, log, rounds):
        self.assertTrue(is_plain_log(house, log))
        self.assertEqual([row[0] for row in log].count("put"), 2 * rounds)
        self.assertEqual([row[0] for row in log].count("call"), 2 * rounds)
        self.assertEqual(plain.best(log), 2 * rounds)
        self.assertEqual(served_at(house, log)[-1], rounds)

    def test_any_house(self):
        forked = 0
        for house in small_houses() + random_houses(70, 40) + nested_random_houses(70, 20) + [GREATEST]:
            if plain.tails_agree(house):
                self.assertIsNone(losing_log(house))
                for rounds in (0, 1, 50):
                    self.assertIsNone(half_log(house, rounds))
                continue
            forked += 1
            self.hold(house, losing_log(house), 1)
            for rounds in (0, 1, 2, 5):
                self.hold(house, half_log(house, rounds), rounds)
        self.assertGreater(forked, 50)

    def test_no_rounds_and_fifty(self):
        for house in (FORKED, CROSSED, GREATEST):
            self.assertEqual(half_log(house, 0), ())
            self.hold(house, half_log(house, 50), 50)
        for house in (ONE, AB):
            self.assertIsNone(half_log(house, 0))
            self.assertIsNone(losing_log(house))

    def test_equal_arguments_give_equal_logs(self):
        self.assertEqual(losing_log(FORKED), losing_log(FORKED))
        self.assertEqual(half_log(CROSSED, 7), half_log(CROSSED, 7))


if __name__ == "__main__":
    unittest.main()
