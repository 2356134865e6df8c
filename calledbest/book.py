"""A Book of what is told of a store day by day, also late, that forgets days by their brief.

A STEP is a tuple of "tell", "strike" or "begin", an index of rows or None, and a row or amounts.
"""

from calledbest.acts import acted, no_amounts
from calledbest.begins import count_in
from calledbest.briefs import acted_by, brief_of, joined
from calledbest.errors import NoDeed, NoIndex, Nothing, TooLate, Wrong
from calledbest.forks import check_nested
from calledbest.forms import is_amounts, is_deed, is_house, is_integer


def stretch_told(rows):
    """Return the stretch of rows."""
    return tuple([deed for day, deed in rows])


class Book:
    """The rows that are told of a store, each a tuple of a day and a deed, days ascending."""

    def __init__(self, house):
        if not is_house(house):
            raise Wrong(0)
        check_nested(house)
        self._house = house
        self._rows = []
        self._beginning = no_amounts(house)
        self._kept = brief_of(house, ())
        self._first = None
        self._backward = []
        self._forward = []

    def _do(self, step):
        """Do a STEP, and return the one that takes it back."""
        sort, at, what = step
        if sort == "tell":
            self._rows.insert(at, what)
            return "strike", at, what
        if sort == "strike":
            del self._rows[at]
            return "tell", at, what
        before = self._beginning
        self._beginning = what
        return sort, at, before

    def _do_new(self, step):
        """Do a STEP that was not taken back."""
        self._backward.append(self._do(step))
        self._forward = []

    def _is_forgotten(self, day):
        """Tell whether a day is forgotten."""
        return self._first is not None and day < self._first

    def tell(self, day, deed):
        """Tell a row: it comes behind all rows with this day or an earlier one."""
        if not is_integer(day):
            raise Wrong(0)
        if not is_deed(self._house, deed):
            raise NoDeed()
        if self._is_forgotten(day):
            raise TooLate(day)
        at = len([1 for other, _ in self._rows if other <= day])
        self._do_new(("tell", at, (day, deed)))

    def strike(self, index):
        """Take the row with this index out, and return it."""
        if not is_integer(index) or not 0 <= index < len(self._rows):
            raise NoIndex(index)
        row = self._rows[index]
        self._do_new(("strike", index, row))
        return row

    def begin(self, amounts):
        """Tell what was there at the beginning."""
        if not is_amounts(self._house, amounts):
            raise Wrong(0)
        self._do_new(("begin", None, dict(amounts)))

    def forget(self, day):
        """Forget all days ahead of this one, and return how many rows went."""
        if not is_integer(day):
            raise Wrong(0)
        if self._first is not None and day <= self._first:
            return 0
        gone = [row for row in self._rows if row[0] < day]
        self._kept = joined(self._house, self._kept, brief_of(self._house, stretch_told(gone)))
        self._rows = self._rows[len(gone):]
        self._first = day
        self._backward = []
        self._forward = []
        return len(gone)

    def rows(self):
        """Return the list of the rows that are there."""
        return list(self._rows)

    def kept_brief(self):
        """Return the brief of the rows that are forgotten."""
        return {whole: {part: row[part] for part in row} for whole, row in self._kept.items()}

    def first_day(self):
        """Return the first day that is not forgotten, None if no day is."""
        return self._first

    def amounts(self, day):
        """Return the amounts behind all rows of this day and of earlier ones."""
        if self._is_forgotten(day + 1):
            raise TooLate(day)
        ahead = acted_by(self._house, self._kept, self._beginning)
        return acted(self._house, stretch_told([row for row in self._rows if row[0] <= day]), ahead)

    def number_of(self, part, day):
        """Return the number of things of the kinds of part behind this day."""
        return count_in(self.amounts(day), part)

    def brief_of(self, first, last):
        """Return the brief of the rows of the days from first to last."""
        if self._is_forgotten(first):
            raise TooLate(first)
        return brief_of(self._house, stretch_told([row for row in self._rows if first <= row[0] <= last]))

    def back(self):
        """Take the last tell, strike or begin back."""
        if self._backward == []:
            raise Nothing()
        self._forward.append(self._do(self._backward.pop()))

    def again(self):
        """Do once more what was taken back last."""
        if self._forward == []:
            raise Nothing()
        self._backward.append(self._do(self._forward.pop()))

    def twin(self):
        """Return an independent Book in the same state."""
        other = Book(self._house)
        other._rows = list(self._rows)
        # The amounts and briefs that a Book keeps are never changed in place.
        other._beginning = self._beginning
        other._kept = self._kept
        other._first = self._first
        other._backward = list(self._backward)
        other._forward = list(self._forward)
        return other
