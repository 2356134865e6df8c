"""[52]: a Desk that leads a Book by lines."""

import random
import unittest

from calledbest.alike import are_alike
from calledbest.book import Book
from calledbest.desk import Desk
from calledbest.errors import CallError, NoCommand, NoText, NotNested, Wrong
from calledbest.reader import read_house
from calledbest.texts import show_house
from tests import plain
from tests.helpers import AB, CROSSED, FORKED, CallCase, any_values, nested_random_houses, random_houses

TEXT = "kinds a b\ncall a b\ncall b"
# Kinds that are called as commands are: the place in a line tells.
WORDS = (("put", "call", "rows"), (("call", "rows"), ("put", "call", "rows"), ("rows",)))

NONE = [
    "", " ", "   ", "\n", "rows\n", "rows x", "rows rows", "Rows", "row", "put a", "put", "call b", "a", "b", "~", "# rows", "rows # x",
    "1", "1 put", "1 put c", "1 put a b", "1 put A", "1 puts a", "1 call", "1 call a", "1 call b a", "1 call a a", "1 call a b b",
    "1 drop a", "put a 1", "1 1 put a", "01 put a", "00 put a", "-0 put a", "+1 put a", "- put a", "--1 put a", "1- put a", "1.0 put a",
    "1_0 put a", "1234567890 put a", "-1234567890 put a", "1\nput a", "1 put a\n", "1\tput a", "a put a", "one put a", "1 put\na",
    "strike", "strike a", "strike -1", "strike +1", "strike 01", "strike 0 0", "strike 1234567890", "strike -0", "strike 0\n",
    "begin", "begin a 1", "begin a 1 b", "begin a 1 b -1", "begin a 1 b +1", "begin a 1 b 01", "begin b 1 a 1", "begin a 1 b 1 c 1",
    "begin a 1 b 1 b 1", "begin a 1 b 1234567890", "begin 1 a 1 b", "begin a 1 a 1", "begin a b", "begin a 1 b x", "begin a 1 b -0",
    "forget", "forget a", "forget 1 2", "forget 01", "forget +1", "forget 1234567890", "forget -0", "forget -01",
    "back 1", "again 1", "back back", "backs", "amounts", "amounts a", "amounts 1 2", "amounts 01", "amounts -0", "amounts 1 a",
    "number", "number a", "number 1 c", "number 1 b a", "number 1 a a", "number 01", "number -0 a", "number 1 a b c", "number a 1",
    "alike", "alike 1 2 3", "alike 1 2 3 4 5", "alike 1 2 3 a", "alike 1 2 3 04", "alike 1 2 3 +4", "alike 1 2 -0 4",
    "alike 1 2 3 1234567890", "execute", "book", "tell 1 put a", "quit",
]


class DeskTest(CallCase):

    def test_by_hand(self):
        desk = Desk(TEXT)
        for line, told in (
            ("2 put b", ["done"]), ("1 call b", ["done"]), ("amounts 2", ["a 0", "b 1"]), ("alike 1 2 2 2", ["no"]),
            ("rows", ["1 call b", "2 put b"]), ("alike 2 2 2 9", ["yes"]), ("alike 5 4 9 8", ["yes"]), ("number 2 a b", ["1"]),
            ("number 2", ["0"]), ("begin a 7 b 0", ["done"]), ("number 0 a", ["7"]), ("  amounts   1  ", ["a 7", "b 0"]),
            ("strike 2", ["refused"]), ("strike 0", ["done"]), ("rows", ["2 put b"]), ("back", ["done"]), ("again", ["done"]),
            ("again", ["refused"]), ("-3 call a b", ["done"]), ("forget 2", ["done 1"]), ("forget 2", ["done 0"]),
            ("forget -999999999", ["done 0"]), ("back", ["refused"]), ("1 put a", ["refused"]), ("amounts 0", ["refused"]),
            ("amounts 1", ["a 6", "b 0"]), ("number 0", ["refused"]), ("number 0 a b", ["refused"]), ("number 1 a b", ["6"]),
            ("alike 1 1 2 2", ["refused"]), ("alike 2 2 1 1", ["refused"]), ("alike 2 2 3 3", ["no"]),
            ("999999999 put a", ["done"]), ("rows", ["2 put b", "999999999 put a"]), ("strike 999999999", ["refused"]),
            ("forget 999999999", ["done 1"]), ("amounts 999999999", ["a 7", "b 1"]), ("begin a 999999999 b 0", ["done"]),
            ("amounts 999999998", ["a 999999998", "b 1"]),
        ):
            self.assertEqual(desk.execute(line), told, line)
        self.assertEqual(Desk(TEXT).execute("rows"), [])

    def test_lines_that_are_none(self):
        desk = Desk(TEXT)
        desk.execute("5 put a")
        for line in NONE:
            with self.subTest(line):
                self.assert_raises(NoCommand, {}, desk.execute, line)
        for value in any_values():
            if isinstance(value, str):
                self.assert_raises(NoCommand, {}, desk.execute, value)
            else:
                self.assert_raises(Wrong, {"place": 0}, desk.execute, value)
        # No kinds, and no calls, of another house.
        for line in ("1 put put", "1 call rows", "number 1 put", "begin put 1 call 1 rows 1"):
            self.assert_raises(NoCommand, {}, desk.execute, line)
        self.assertEqual(desk.execute("rows"), ["5 put a"])
        self.assertEqual((desk.execute("back"), desk.execute("back")), (["done"], ["refused"]))

    def test_kinds_that_are_called_as_commands(self):
        desk = Desk(show_house(WORDS))
        for line, told in (
            ("1 put put", ["done"]), ("1 put call", ["done"]), ("1 call call rows", ["done"]), ("1 call rows", ["done"]),
            ("begin put 1 call 2 rows 3", ["done"]), ("amounts 1", ["put 2", "call 2", "rows 2"]), ("number 1 put rows", ["4"]),
            ("rows", ["1 put put", "1 put call", "1 call call rows", "1 call rows"]),
        ):
            self.assertEqual(desk.execute(line), told, line)
        for line in ("1 call put", "1 call call", "put put", "begin put 1 rows 3 call 2", "number 1 rows put"):
            self.assert_raises(NoCommand, {}, desk.execute, line)

    def test_more_kinds_than_calls_and_fewer(self):
        desk = Desk("kinds a b c\ncall a b c")
        self.assertEqual(desk.execute("begin a 1 b 2 c 3"), ["done"])
        self.assertEqual(desk.execute("amounts 0"), ["a 1", "b 2", "c 3"])
        desk = Desk("kinds a b\ncall a\ncall b\n")
        self.assertEqual(desk.execute("begin a 1 b 2"), ["done"])
        desk = Desk("kinds a b c d\ncall a c\ncall b c\ncall c\ncall d")
        self.assertEqual(desk.execute("begin a 4 b 3 c 2 d 1"), ["done"])
        for line in ("begin a 1", "begin a 4 b 3 c 2", "begin a 4 b 3 c 2 d 1 a 1", "begin d 1 c 2 b 3 a 4"):
            self.assert_raises(NoCommand, {}, desk.execute, line)
        self.assertEqual(desk.execute("number 0 a b d"), ["8"])

    def test_texts(self):
        for value in any_values():
            if not isinstance(value, str):
                self.assert_raises(Wrong, {"place": 0}, Desk, value)
        for text, line in (("", 1), ("call a", 0), ("kinds a\ncall b", 1), ("kinds a b\ncall a", 2), ("kinds a\n\ncall a\ncall a", 3)):
            self.assert_raises(NoText, {"line": line}, Desk, text)
        for house in [FORKED, CROSSED] + random_houses(450, 20):
            forks = plain.forks(house)
            if forks:
                self.assert_raises(NotNested, {"fork": forks[0]}, Desk, show_house(house))
            else:
                self.assertEqual(Desk(show_house(house)).execute("rows"), [])
        desk = Desk("  kinds  b a # the best one first\n\ncall b a\n call a")
        self.assertEqual((desk.execute("1 put a"), desk.execute("amounts 1")), (["done"], ["b 0", "a 1"]))

    def test_a_book_is_led(self):
        chance = random.Random(451)
        met = set()
        for house in [AB, WORDS, *nested_random_houses(451, 12)]:
            desk, book = Desk(show_house(house)), Book(house)
            for _ in range(80):
                line, expected = self.random_command(chance, house, book)
                told = desk.execute(line)
                self.assertEqual(told, expected, line)
                met.add((line.split()[1 if line[0] in "-0123456789" else 0], told == ["refused"]))
            self.assertEqual(desk.book().rows(), book.rows())
            self.assertEqual(desk.book().kept_brief(), book.kept_brief())
        self.assertEqual(len(met), 19, met)

    def random_command(self, chance, house, book):
        """Return a line, and the answer that a Book leads to; it is led on."""
        day, other = chance.randint(-3, 6), chance.randint(-3, 6)
        sort = chance.choice(["put", "call", "strike", "begin", "forget", "back", "again", "rows", "amounts", "number", "alike"])
        gap = " " * chance.randint(1, 3)
        try:
            line, answer = getattr(self, "do_" + sort)(chance, house, book, day, other)
            return line.replace(" ", gap), answer() or ["done"]
        except CallError:
            return line.replace(" ", gap), ["refused"]

    def do_put(self, chance, house, book, day, other):
        kind = chance.choice(house[0])
        return f"{day} put {kind}", lambda: book.tell(day, ("put", kind))

    def do_call(self, chance, house, book, day, other):
        call = chance.choice(house[1])
        return f"{day} call {' '.join(call)}", lambda: book.tell(day, ("call", call))

    def do_strike(self, chance, house, book, day, other):
        return f"strike {abs(day)}", lambda: book.strike(abs(day)) and None

    def do_begin(self, chance, house, book, day, other):
        amounts = {kind: chance.randint(0, 20) for kind in house[0]}
        words = [f"{kind} {amounts[kind]}" for kind in house[0]]
        return "begin " + " ".join(words), lambda: book.begin(amounts)

    def do_forget(self, chance, house, book, day, other):
        return f"forget {day - 3}", lambda: [f"done {book.forget(day - 3)}"]

    def do_back(self, chance, house, book, day, other):
        return "back", book.back

    def do_again(self, chance, house, book, day, other):
        return "again", book.again

    def do_rows(self, chance, house, book, day, other):
        shown = [
            f"{at} {deed[0]} {deed[1] if deed[0] == 'put' else ' '.join(deed[1])}" for at, deed in book.rows()
        ]
        line = "rows"
        return line, (lambda: shown) if shown else (lambda: Empty())

    def do_amounts(self, chance, house, book, day, other):
        return f"amounts {day}", lambda: [f"{kind} {book.amounts(day)[kind]}" for kind in house[0]]

    def do_number(self, chance, house, book, day, other):
        part = chance.choice(plain.sets(house))
        return " ".join(["number", str(day), *part]), lambda: [str(plain.count(book.amounts(day), part))]

    def do_alike(self, chance, house, book, day, other):
        ends = [day, other, chance.randint(-3, 6), chance.randint(-3, 6)]
        return "alike " + " ".join(map(str, ends)), lambda: [self.alike(house, book, ends)]

    def alike(self, house, book, ends):
        book.brief_of(ends[0], ends[1])
        book.brief_of(ends[2], ends[3])
        one, other = (
            tuple(deed for day, deed in book.rows() if first <= day <= last) for first, last in (ends[:2], ends[2:])
        )
        return "yes" if are_alike(house, one, other) else "no"

    def test_alike_rows_of_other_days(self):
        desk = Desk(TEXT)
        for line in ("1 put a", "1 call a b", "2 put b", "2 call b", "3 call b", "3 put b"):
            self.assertEqual(desk.execute(line), ["done"])
        self.assertEqual(desk.execute("alike 1 1 2 2"), ["yes"])
        self.assertEqual(desk.execute("alike 1 1 9 8"), ["yes"])
        self.assertEqual(desk.execute("alike 2 2 3 3"), ["no"])
        self.assertEqual(desk.execute("alike -999999999 999999999 3 3"), ["yes"])

    def test_the_book_is_a_twin(self):
        desk = Desk(TEXT)
        desk.execute("1 put a")
        desk.execute("2 put b")
        desk.execute("back")
        book = desk.book()
        self.assertIs(book.__class__, Book)
        book.again()
        book.tell(5, ("put", "a"))
        book.forget(9)
        self.assertEqual(desk.execute("rows"), ["1 put a"])
        self.assertEqual((desk.execute("again"), desk.execute("rows")), (["done"], ["1 put a", "2 put b"]))
        self.assertIsNot(desk.book(), desk.book())
        told = desk.execute("rows")
        told.append("spoilt")
        self.assertEqual(desk.execute("rows"), ["1 put a", "2 put b"])
        self.assertEqual(read_house(TEXT), AB)


class Empty(list):
    """A list that is empty, and yet an answer."""

    def __bool__(self):
        return True


if __name__ == "__main__":
    unittest.main()
