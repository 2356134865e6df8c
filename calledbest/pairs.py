"""Pairs of rows: as many as can be, each row in one at most."""

from calledbest.play import tally


class Pairs:
    """Pairs that grow row by row: a row that is in one stays so, perhaps with another mate.

    beside has for the rows that come the list of the rows with which each of them can be in a pair.
    """

    def __init__(self, beside):
        self.beside = beside
        self.mates = {}

    def pair_up(self, row):
        """Let a row come, and return whether there is a pair more."""
        came = {}
        free = self._free_row(row, came)
        if free is None:
            return False
        # The free row goes to the one from which it was come to, the mate of this one to the one before, and so on.
        while free is not None:
            taker = came[free]
            passed = self.mates.get(taker)
            self.mates[taker] = free
            self.mates[free] = taker
            free = passed
        return True

    def come(self, row, others):
        """Let a row come that lies beside others, which came ahead of it, and return whether there is a pair more."""
        self.beside[row] = list(others)
        for other in others:
            self.beside[other].append(row)
        return self.pair_up(row)

    def _free_row(self, row, came):
        """Return a row that is free, keeping in came from which row each one was come to, None if there is none."""
        waiting = [row]
        while waiting != []:
            at = waiting.pop()
            for other in self.beside[at]:
                if other not in came:
                    came[other] = at
                    if other not in self.mates:
                        return other
                    waiting.append(self.mates[other])
        return None

    def mates_of(self, rows):
        """Return the dict from those of rows that are in a pair to their mates."""
        return {row: self.mates[row] for row in rows if row in self.mates}


def led_to(beside, mates, starts):
    """Return the list of all that exchanges lead to from starts: on to one beside, and from there to its mate."""
    found = list(starts)
    seen = {start: True for start in starts}
    waiting = list(starts)
    while waiting != []:
        at = waiting.pop()
        for other in beside[at]:
            mate = mates.get(other)
            if mate is not None and mate not in seen:
                seen[mate] = True
                found.append(mate)
                waiting.append(mate)
    return found


def most_at(log, sort, beside):
    """Return the list of the most pairs of the rows done, for each moment, if rows of this sort come with beside."""
    pairs = Pairs(beside)
    bringing = []
    for index, row in enumerate(log):
        # A row of the other sort lies beside rows behind it alone: what could be in no pair stays so.
        if row[0] == sort and pairs.pair_up(index):
            bringing.append(index)
    return tally(log, bringing)
