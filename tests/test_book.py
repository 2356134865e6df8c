"""[50]: a Book of days."""

import copy
import random
import unittest

from calledbest.book import Book
from calledbest.briefs import brief_of
from calledbest.errors import NoDeed, NoIndex, Nothing, NotNested, TooLate, Wrong
from calledbest.forms import is_amounts, is_house
from tests import plain
from tests.helpers import (
    AB, CROSSED, FORKED, GREATEST, ONE, CallCase, any_values, deeds_of, nested_random_houses, random_houses, small_houses,
    turned_about,
)

APART = (tuple("abcdef"), tuple((kind,) for kind in "abcdef"))
PUT, CALL = ("put", "a"), ("call", ("a", "b"))


class Plain:
    """A Book by a plain list of all rows that were ever told, played anew for each question."""

    def __init__(self, house):
        self.house = house
        self.gone = []
        self.rows = []
        self.beginning = {kind: 0 for kind in house[0]}
        self.first = None
        self.past = []
        self.future = []

    def keep(self):
        self.past.append((list(self.rows), dict(self.beginning)))
        self.future = []

    def tell(self, day, deed):
        self.keep()
        self.rows.append((day, deed))
        self.rows.sort(key=lambda row: row[0])

    def strike(self, index):
        self.keep()
        return self.rows.pop(index)

    def begin(self, amounts):
        self.keep()
        self.beginning = dict(amounts)

    def forget(self, day):
        if self.first is not None and day <= self.first:
            return 0
        going = [row for row in self.rows if row[0] < day]
        self.gone.extend(going)
        self.rows = [row for row in self.rows if row[0] >= day]
        self.first, self.past, self.future = day, [], []
        return len(going)

    def back(self):
        self.future.append((self.rows, self.beginning))
        self.rows, self.beginning = self.past.pop()

    def again(self):
        self.past.append((self.rows, self.beginning))
        self.rows, self.beginning = self.future.pop()

    def amounts(self, day):
        stretch = tuple(deed for other, deed in self.gone + self.rows if other <= day)
        return plain.acted(self.house, stretch, self.beginning)

    def brief(self, first, last):
        return brief_of(self.house, tuple(deed for day, deed in self.rows if first <= day <= last))


class BookTest(CallCase):

    def state(self, book):
        """Return all that a Book tells, and what can be taken back and done again."""
        twin = book.twin()
        told = [twin.rows(), twin.kept_brief(), twin.first_day(), twin.amounts(10 ** 40)]
        steps = []
        for step in (twin.back, twin.again):
            while True:
                try:
                    step()
                except Nothing:
                    break
                steps.append((twin.rows(), twin.amounts(10 ** 40)))
        return told, steps

    def hold(self, book, model, days):
        """The Book tells what the model tells."""
        self.assertEqual(book.rows(), model.rows)
        self.assertEqual(book.first_day(), model.first)
        self.assertEqual(book.kept_brief(), brief_of(model.house, tuple(deed for day, deed in model.gone)))
        for day in days:
            if model.first is not None and day + 1 < model.first:
                self.assert_refused(book, TooLate, {"day": day}, book.amounts, day)
                self.assert_refused(book, TooLate, {"day": day}, book.number_of, (), day)
            else:
                self.assertEqual(book.amounts(day), model.amounts(day))
                for part in plain.sets(model.house)[:6]:
                    self.assertEqual(book.number_of(part, day), plain.count(model.amounts(day), part))
        first, last = days[0], days[-1]
        if model.first is not None and first < model.first:
            self.assert_refused(book, TooLate, {"day": first}, book.brief_of, first, last)
        else:
            self.assertEqual(book.brief_of(first, last), model.brief(first, last))

    def assert_refused(self, book, error, fields, method, *arguments):
        """The call raises this error, and nothing changes."""
        before = self.state(book)
        self.assert_raises(error, fields, method, *arguments)
        self.assertEqual(self.state(book), before)

    def test_by_hand(self):
        book = Book(AB)
        self.assertEqual((book.rows(), book.first_day(), book.amounts(0)), ([], None, {"a": 0, "b": 0}))
        for day, deed in ((1, PUT), (3, CALL), (2, ("put", "b"))):
            self.assertIsNone(book.tell(day, deed))
        self.assertEqual(book.rows(), [(1, PUT), (2, ("put", "b")), (3, CALL)])
        self.assertEqual([book.amounts(day) for day in (0, 1, 2, 3)], [
            {"a": 0, "b": 0}, {"a": 1, "b": 0}, {"a": 1, "b": 1}, {"a": 0, "b": 1},
        ])
        self.assertEqual(book.forget(3), 2)
        self.assertIsNone(book.begin({"b": 5, "a": 1}))
        self.assertEqual((book.amounts(3), book.number_of(("b",), 2)), ({"a": 1, "b": 6}, 6))
        self.assertEqual(book.strike(0), (3, CALL))
        self.assertEqual(book.rows(), [])
        self.assertIsNone(book.back())
        self.assertEqual(book.rows(), [(3, CALL)])
        self.assertIsNone(book.again())
        self.assertEqual(book.rows(), [])

    def test_rows_of_one_day_come_as_they_are_told(self):
        book = Book(AB)
        deeds = [PUT, CALL, ("put", "b"), ("call", ("b",))]
        for deed in deeds:
            for day in (5, -5, 0):
                book.tell(day, deed)
        self.assertEqual(book.rows(), [(day, deed) for day in (-5, 0, 5) for deed in deeds])

    def step(self, chance, book, model, days):
        """Do one thing, the same in both; return what it was."""
        sort = chance.choice(["tell", "tell", "tell", "tell", "strike", "begin", "forget", "back", "back", "again", "again"])
        if sort == "tell":
            day, deed = chance.choice(days), chance.choice(deeds_of(model.house))
            if model.first is not None and day < model.first:
                self.assert_raises(TooLate, {"day": day}, book.tell, day, deed)
                return "late"
            self.assertIsNone(book.tell(day, deed))
            model.tell(day, deed)
        elif sort == "strike":
            index = chance.randrange(-1, len(model.rows) + 1)
            if not 0 <= index < len(model.rows):
                self.assert_raises(NoIndex, {"index": index}, book.strike, index)
                return "no index"
            self.assertEqual(book.strike(index), model.strike(index))
        elif sort == "begin":
            amounts = turned_about({kind: chance.randint(0, 4) for kind in sorted(model.house[0])})
            self.assertIsNone(book.begin(amounts))
            model.begin(amounts)
        elif sort == "forget":
            if chance.random() < 0.5:
                return None
            day = chance.choice(days)
            told = book.forget(day)
            self.assertEqual(told, model.forget(day))
            return "forget " + str(told > 0)
        else:
            steps = model.past if sort == "back" else model.future
            if not steps:
                self.assert_raises(Nothing, {}, getattr(book, sort))
                return "nothing " + sort
            self.assertIsNone(getattr(book, sort)())
            getattr(model, sort)()
        return sort

    def test_a_plain_list_of_rows(self):
        chance = random.Random(420)
        met = set()
        nested = [house for house in small_houses() if plain.tails_agree(house)]
        for house in nested[::2] + nested_random_houses(420, 10):
            book, model = Book(house), Plain(house)
            days = sorted(chance.sample(range(-4, 8), 6))
            for number in range(40):
                met.add(self.step(chance, book, model, days))
                if number % 8 == 7:
                    self.hold(book, model, days[chance.randrange(3):])
        self.assertEqual(met, {
            None, "tell", "late", "strike", "no index", "begin", "forget True", "forget False", "back", "again", "nothing back",
            "nothing again",
        })

    def test_back_and_again(self):
        book = Book(AB)
        self.assert_refused(book, Nothing, {}, book.back)
        self.assert_refused(book, Nothing, {}, book.again)
        for day in range(5):
            book.tell(day, PUT)
        book.strike(2)
        book.begin({"a": 3, "b": 3})
        self.assertEqual(book.amounts(9), {"a": 7, "b": 3})
        told = []
        for _ in range(7):
            told.append((book.rows(), book.amounts(9)))
            book.back()
        self.assertEqual((book.rows(), book.amounts(9)), ([], {"a": 0, "b": 0}))
        self.assert_refused(book, Nothing, {}, book.back)
        for state in told[::-1]:
            book.again()
            self.assertEqual((book.rows(), book.amounts(9)), state)
        self.assert_refused(book, Nothing, {}, book.again)
        # What is done anew can be done again no more.
        book.back()
        book.back()
        book.tell(9, CALL)
        self.assert_refused(book, Nothing, {}, book.again)
        book.back()
        book.again()
        self.assertEqual(len(book.rows()), 6)

    def test_back_behind_refused_calls(self):
        book = Book(AB)
        book.tell(1, PUT)
        book.back()
        for refused in (lambda: book.tell(1, "x"), lambda: book.strike(5), lambda: book.begin({}), lambda: book.tell(None, PUT)):
            with self.assertRaises(ValueError):
                refused()
        book.again()
        self.assertEqual(book.rows(), [(1, PUT)])
        book.back()
        self.assert_refused(book, Nothing, {}, book.back)

    def test_a_forget_empties_both(self):
        for day, emptied in ((5, True), (4, False), (3, False), (-10 ** 30, False)):
            book = Book(AB)
            self.assertEqual(book.forget(4), 0)
            book.tell(4, PUT)
            book.tell(6, PUT)
            book.back()
            told = book.forget(day)
            self.assertEqual(told, int(emptied))
            if emptied:
                self.assert_refused(book, Nothing, {}, book.back)
                self.assert_refused(book, Nothing, {}, book.again)
            else:
                book.again()
                book.back()
                book.back()
                self.assertEqual(book.rows(), [])
            self.assertEqual(book.first_day(), max(day, 4))
        # Days without rows are forgotten, too.
        book = Book(AB)
        book.tell(9, PUT)
        self.assertEqual((book.forget(3), book.first_day()), (0, 3))
        self.assert_refused(book, Nothing, {}, book.back)

    def test_the_day_ahead_and_the_day_behind(self):
        book = Book(AB)
        book.tell(1, PUT)
        book.tell(2, ("put", "b"))
        book.tell(3, PUT)
        self.assertEqual(book.forget(3), 2)
        self.assertEqual(book.amounts(2), {"a": 1, "b": 1})
        self.assertEqual(book.amounts(3), {"a": 2, "b": 1})
        for day in (1, 0, -10 ** 30):
            self.assert_refused(book, TooLate, {"day": day}, book.amounts, day)
            self.assert_refused(book, TooLate, {"day": day}, book.number_of, ("a",), day)
        for first, last in ((2, 2), (2, 5), (2, 1), (-10 ** 30, 10 ** 30), (1, -5)):
            self.assert_refused(book, TooLate, {"day": first}, book.brief_of, first, last)
        self.assertEqual(book.brief_of(3, 3), brief_of(AB, (PUT,)))
        self.assertEqual(book.brief_of(3, 2), brief_of(AB, ()))
        self.assertEqual(book.brief_of(10 ** 30, -10 ** 30), brief_of(AB, ()))
        self.assert_refused(book, TooLate, {"day": 2}, book.tell, 2, PUT)
        book.tell(3, PUT)
        self.assertEqual(book.amounts(3), {"a": 3, "b": 1})

    def test_errors_in_their_order(self):
        book = Book(AB)
        book.forget(5)
        self.assert_refused(book, Wrong, {"place": 0}, book.tell, True, "nothing")
        self.assert_refused(book, Wrong, {"place": 0}, book.tell, None, PUT)
        self.assert_refused(book, NoDeed, {}, book.tell, 4, "nothing")
        self.assert_refused(book, NoDeed, {}, book.tell, 5, ("put", "c"))
        self.assert_refused(book, TooLate, {"day": 4}, book.tell, 4, PUT)
        book.tell(5, PUT)
        for value in any_values():
            if isinstance(value, int) and not isinstance(value, bool):
                twin = book.twin()
                if value < 5:
                    self.assert_raises(TooLate, {"day": value}, twin.tell, value, PUT)
                    self.assertEqual((twin.forget(value), twin.first_day()), (0, 5))
                else:
                    twin.tell(value, PUT)
                    self.assertEqual((twin.forget(value), twin.first_day()), (1, value))
            else:
                for deed in (PUT, None):
                    self.assert_raises(Wrong, {"place": 0}, book.tell, value, deed)
                self.assert_raises(Wrong, {"place": 0}, book.forget, value)
            for day in (5, 4):
                self.assert_raises(NoDeed, {}, book.tell, day, value)
            self.assert_raises(Wrong, {"place": 0}, book.begin, value)
            if value == 0 and not isinstance(value, bool):
                continue
            self.assert_raises(NoIndex, {"index": value}, book.strike, value)
        self.assertEqual(book.rows(), [(5, PUT)])

    def test_begin_takes_amounts_alone(self):
        book = Book(AB)
        for wrong in (
            {"a": 1}, {"a": 1, "b": -1}, {"a": 1, "b": True}, {"a": False, "b": 0}, {"a": 1, "b": 1, "c": 1}, {"a": 1, "b": None},
            [("a", 1), ("b", 1)], (1, 1), {"a": 1, "b": "1"},
        ):
            self.assert_truth(False, is_amounts(AB, wrong))
            self.assert_refused(book, Wrong, {"place": 0}, book.begin, wrong)
        book.begin({"b": 10 ** 30, "a": 10 ** 40})
        self.assertEqual(book.amounts(0), {"a": 10 ** 40, "b": 10 ** 30})

    def test_strike_no_index(self):
        book = Book(AB)
        for value in (0, -1, True, False, None, "0", (0,)):
            self.assert_refused(book, NoIndex, {"index": value}, book.strike, value)
        book.tell(1, PUT)
        book.tell(2, CALL)
        for value in (-1, 2, True, False, 10 ** 30, [0]):
            self.assert_refused(book, NoIndex, {"index": value}, book.strike, value)
        self.assertEqual((book.strike(1), book.strike(0)), ((2, CALL), (1, PUT)))

    def test_houses(self):
        for value in any_values():
            if not is_house(value):
                self.assert_raises(Wrong, {"place": 0}, Book, value)
        for house in [FORKED, CROSSED, GREATEST] + random_houses(421, 20):
            forks = plain.forks(house)
            if forks:
                self.assert_raises(NotNested, {"fork": forks[0]}, Book, house)
            else:
                self.assertEqual(Book(house).rows(), [])

    def test_it_keeps_its_own_copy(self):
        book = Book(AB)
        amounts = {"a": 2, "b": 1}
        book.begin(amounts)
        amounts["a"] = 100
        self.assertEqual(book.amounts(1), {"a": 2, "b": 1})
        book.tell(1, PUT)
        book.forget(2)
        book.tell(2, PUT)
        state = copy.deepcopy(self.state(book))
        book.rows().append("spoilt")
        book.amounts(5)["a"] = "spoilt"
        brief = book.kept_brief()
        self.assert_ascending(brief)
        brief[("a",)][()] = "spoilt"
        brief["spoilt"] = {}
        told = book.brief_of(2, 2)
        told[("a",)][()] = "spoilt"
        self.assertEqual(self.state(book), state)
        self.assert_ascending(book.amounts(5))
        self.assertEqual(self.assert_steady(book.brief_of, 2, 3), brief_of(AB, (PUT,)))

    def test_a_twin_goes_its_own_way(self):
        book = Book(AB)
        book.begin({"a": 1, "b": 1})
        book.tell(1, PUT)
        book.forget(2)
        book.tell(3, PUT)
        book.tell(4, CALL)
        book.back()
        twin = book.twin()
        self.assertIs(twin.__class__, Book)
        self.assertEqual(self.state(twin), self.state(book))
        kept = copy.deepcopy(self.state(book))
        twin.again()
        twin.begin({"a": 9, "b": 9})
        twin.strike(0)
        twin.forget(9)
        twin.tell(9, PUT)
        self.assertEqual(self.state(book), kept)
        twin = book.twin()
        kept = copy.deepcopy(self.state(twin))
        book.back()
        book.begin({"a": 7, "b": 7})
        book.forget(50)
        self.assertEqual(self.state(twin), kept)

    def test_two_hundred_rows(self):
        chance = random.Random(422)
        for house in [APART, ONE, *nested_random_houses(422, 2)]:
            book, model = Book(house), Plain(house)
            amounts = {kind: chance.choice([0, 10 ** 9, 10 ** 30]) for kind in house[0]}
            book.begin(amounts)
            model.begin(amounts)
            days = [chance.choice([-1, 1]) * chance.choice([0, 1, 10 ** 9, 10 ** 30]) + chance.randint(-3, 3) for _ in range(12)]
            days.sort()
            for _ in range(200):
                day, deed = chance.choice(days), chance.choice(deeds_of(house))
                book.tell(day, deed)
                model.tell(day, deed)
            self.hold(book, model, days)
            for day in (days[3], days[6] + 1):
                self.assertEqual(book.forget(day), model.forget(day))
                # Rows told late, behind a forget, and what was there ahead of all.
                for _ in range(5):
                    late = chance.choice([other for other in days if other >= day])
                    deed = chance.choice(deeds_of(house))
                    book.tell(late, deed)
                    model.tell(late, deed)
                book.begin({kind: 3 for kind in house[0]})
                model.begin({kind: 3 for kind in house[0]})
                self.hold(book, model, days)
            self.assertEqual(book.forget(10 ** 31), model.forget(10 ** 31))
            self.assertEqual(book.rows(), [])
            self.hold(book, model, [10 ** 31 - 1, 10 ** 31])


if __name__ == "__main__":
    unittest.main()
