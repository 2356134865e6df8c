"""A Desk that leads a Book by lines of words."""

from calledbest.book import Book
from calledbest.errors import CallError, NoCommand, Wrong
from calledbest.forms import is_deed, is_set
from calledbest.reader import read_house, row_of
from calledbest.texts import words_of

DIGITS = "0123456789"
MOST_DIGITS = 9


def integer_in(word):
    """Return the integer of at most nine digits that a word shows, as Python does."""
    digits = word[1:] if word.startswith("-") else word
    if not 1 <= len(digits) <= MOST_DIGITS or not all([digit in DIGITS for digit in digits]):
        raise NoCommand()
    if str(int(word)) != word:
        raise NoCommand()
    return int(word)


def number_in(word):
    """Return the integer from 0 on that a word shows."""
    number = integer_in(word)
    if number < 0:
        raise NoCommand()
    return number


def check_many(words, many):
    """Raise NoCommand if there are not just so many words."""
    if len(words) != many:
        raise NoCommand()


def days_in(words, many):
    """Return the list of just so many days that words show."""
    check_many(words, many)
    return [integer_in(word) for word in words]


def amounts_in(house, words):
    """Return the amounts that words show: each kind, in order, and its number."""
    check_many(words, 2 * len(house[0]))
    if tuple(words[::2]) != house[0]:
        raise NoCommand()
    return {kind: number_in(word) for kind, word in zip(house[0], words[1::2])}


def deed_in(house, words):
    """Return the deed that words show."""
    if words == [] or not is_deed(house, row_of(words)):
        raise NoCommand()
    return row_of(words)


def set_in(house, words):
    """Return the SET that words show."""
    if not is_set(house, tuple(words)):
        raise NoCommand()
    return tuple(words)


def arguments_in(house, sort, words):
    """Return the list of the arguments of a command of this sort that words show."""
    if sort in ("back", "again", "rows"):
        return days_in(words, 0)
    if sort in ("forget", "amounts"):
        return days_in(words, 1)
    if sort == "alike":
        return days_in(words, 4)
    if sort == "begin":
        return [amounts_in(house, words)]
    if sort == "strike" and len(words) == 1:
        return [number_in(words[0])]
    if sort == "number" and words != []:
        return [integer_in(words[0]), set_in(house, words[1:])]
    raise NoCommand()


def command_in(house, line):
    """Return the sort and the list of the arguments of the command that a line shows."""
    words = [word for word in line.split(" ") if word != ""]
    if words == []:
        raise NoCommand()
    if words[0].islower():
        return words[0], arguments_in(house, words[0], words[1:])
    return "tell", [integer_in(words[0]), deed_in(house, words[1:])]


def changed(book, sort, arguments):
    """Change a book by a command of this sort, and return the answer."""
    if sort == "forget":
        return [f"done {book.forget(arguments[0])}"]
    if sort == "tell":
        book.tell(arguments[0], arguments[1])
    elif sort == "strike":
        book.strike(arguments[0])
    elif sort == "begin":
        book.begin(arguments[0])
    elif sort == "back":
        book.back()
    else:
        book.again()
    return ["done"]


def told(house, book, sort, arguments):
    """Return what a book answers to a command of this sort that changes nothing."""
    if sort == "rows":
        return [" ".join([str(day), *words_of(deed)]) for day, deed in book.rows()]
    if sort == "amounts":
        amounts = book.amounts(arguments[0])
        return [f"{kind} {amounts[kind]}" for kind in house[0]]
    if sort == "number":
        return [str(book.number_of(arguments[1], arguments[0]))]
    one = book.brief_of(arguments[0], arguments[1])
    return ["yes" if one == book.brief_of(arguments[2], arguments[3]) else "no"]


class Desk:
    """A Book that is led by lines."""

    def __init__(self, text):
        self._house = read_house(text)
        self._book = Book(self._house)

    def execute(self, line):
        """Do what a line asks for, and return the list of the lines of the answer."""
        if not isinstance(line, str):
            raise Wrong(0)
        sort, arguments = command_in(self._house, line)
        try:
            if sort in ("rows", "amounts", "number", "alike"):
                return told(self._house, self._book, sort, arguments)
            return changed(self._book, sort, arguments)
        except CallError:
            return ["refused"]

    def book(self):
        """Return a twin of the Book."""
        return self._book.twin()
