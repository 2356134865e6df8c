"""A store that is played row by row."""

from calledbest.errors import NoCall, NoKind, Used, Wrong
from calledbest.forms import is_call, is_house, is_name
from calledbest.shelf import amounts_on, do_row


class Store:
    """A store of a house: puts, calls and drops, one after the other."""

    def __init__(self, house):
        if not is_house(house):
            raise Wrong(0)
        self._house = house
        self._things = {}
        self._names = {}
        self._done = []

    def put(self, name, kind):
        """Put a thing."""
        if not is_name(name):
            raise Wrong(0)
        if kind not in self._house[0]:
            raise NoKind(kind)
        if name in self._names:
            raise Used(name)
        self._names[name] = True
        self._do(("put", name, kind))

    def take(self, call):
        """Do a call, and return the name that it tells, None if it tells nothing."""
        if not is_call(self._house, call):
            raise NoCall(call)
        return self._do(("call", call))

    def drop(self, name):
        """Do a drop, and return whether the thing was there."""
        if not is_name(name):
            raise Wrong(0)
        return self._do(("drop", name)) is not None

    def _do(self, row):
        """Do a row, and return the name of the thing that it takes away, or None."""
        self._done.append(row)
        return do_row(self._things, row)

    def there(self):
        """Return the list of the names and kinds of the things that are there."""
        return list(self._things.items())

    def amounts(self):
        """Return the amounts of what is there."""
        return amounts_on(self._house, self._things)

    def rows(self):
        """Return the log of all that was done."""
        return tuple(self._done)

    def twin(self):
        """Return an independent store in the same state."""
        other = Store(self._house)
        other._things = dict(self._things)
        other._names = dict(self._names)
        other._done = list(self._done)
        return other
