"""[5], [6] and [10] over several modules: the faces of a house that are the same."""

import itertools
import random
import unittest

from calledbest.begins import beginning_sets
from calledbest.best import best_at, best_of
from calledbest.book import Book
from calledbest.briefs import brief_of
from calledbest.crossings import crossings_of
from calledbest.daycalls import day_forks
from calledbest.errors import NotNested, TooMany
from calledbest.exchange import may_change
from calledbest.forks import is_nested
from calledbest.givers import best_first, first_loss, first_refusal, served_by
from calledbest.houses import reordered
from calledbest.losing import half_log
from calledbest.opponent import quarter_log
from calledbest.orders import nested_orders
from calledbest.play import served_at
from calledbest.unlike import acts_many, unlike_stretches
from tests import plain
from tests.helpers import CallCase, random_giver, random_houses, random_log, small_houses


def houses(seed):
    """Return small houses, and some large ones."""
    return small_houses() + random_houses(seed, 25)


def in_order(kinds, log):
    """Return the log for the house with its kinds in this order."""
    return tuple(
        ("call", tuple(kind for kind in kinds if kind in row[1])) if row[0] == "call" else row for row in log
    )


class GuaranteesTest(CallCase):

    def test_four_faces(self):
        chance = random.Random(480)
        for house in houses(480):
            nested = is_nested(house)
            calls = [("call", call) for call in house[1]]
            self.assertEqual(nested, all(may_change(house, one, other) for one, other in itertools.combinations(calls, 2)))
            log = random_log(chance, house, 40, False)
            loses = served_at(house, log) != best_at(house, log)
            self.assertFalse(nested and loses)
            longest = half_log(house, 20)
            self.assertEqual(longest is None, nested)
            if not nested:
                self.assertEqual(best_of(house, longest), 2 * served_at(house, longest)[-1])

    def test_acts_few_and_many(self):
        for house in houses(481)[::2]:
            for length in (0, 1, 2):
                if not is_nested(house):
                    stretches = unlike_stretches(house, length)
                    self.assertEqual((len(stretches), {len(stretch) for stretch in stretches}), (2 ** length, {length}))
                    for one, other in itertools.combinations(stretches, 2):
                        self.assertFalse(plain.alike(house, one, other) if len(house[0]) < 5 else one == other)
                    continue
                self.assertIsNone(unlike_stretches(house, length))
                many = len(beginning_sets(house))
                try:
                    self.assertLessEqual(acts_many(house, length), (2 * length + 2) ** (many * many))
                except TooMany as error:
                    self.assertEqual(error.most, 1000)

    def test_whoever_gives(self):
        chance = random.Random(482)
        for house in houses(482):
            crossed = crossings_of(house) != []
            self.assertEqual(nested_orders(house) == [], crossed)
            if crossed:
                giver = random_giver(chance, house, 3)
                log = quarter_log(house, giver, 5)
                self.assertEqual(best_of(house, log), 20)
                self.assertLessEqual(served_by(house, giver, log)[-1], 15)
                continue
            # Best first by another order of the kinds.
            order = nested_orders(house)[0]
            log = in_order(order, random_log(chance, house, 40, False))
            turned = reordered(house, order)
            self.assertIsNone(first_loss(turned, best_first(turned), log))

    def test_a_giver_that_gives_serves_half(self):
        chance = random.Random(483)
        for house in houses(483)[::2]:
            giver = random_giver(chance, house, 4, False)
            self.assertIsNone(first_refusal(house, giver))
            log = random_log(chance, house, 40, False)
            for served, best in zip(served_by(house, giver, log), best_at(house, log)):
                self.assertGreaterEqual(2 * served, best)

    def test_no_days(self):
        # Without turns [10] says what [5] says.
        for house in houses(484):
            self.assertEqual(day_forks(house, ()) == [], is_nested(house))

    def test_nested_houses_alone_have_briefs(self):
        for house in houses(485):
            if is_nested(house):
                self.assertEqual(Book(house).kept_brief(), brief_of(house, ()))
            else:
                for function in (lambda: Book(house), lambda: brief_of(house, ())):
                    with self.assertRaises(NotNested) as caught:
                        function()
                    self.assertEqual(caught.exception.fork, plain.forks(house)[0])


if __name__ == "__main__":
    unittest.main()
