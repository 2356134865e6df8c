"""Logs that cost any giver of a house with a crossing."""

from calledbest.acts import log_of
from calledbest.crossings import crossings_of
from calledbest.errors import NotCrossed
from calledbest.givers import given_by


def quarter_log(house, giver, many):
    """Return a log of 8 * many rows with the best 4 * many, of which the giver serves at most 3 * many calls."""
    crossings = crossings_of(house)
    if crossings == []:
        raise NotCrossed()
    both, one, other, kind, behind = crossings[0]
    half = 2 * many
    asked = (("put", kind), ("put", behind)) * half + (("call", both),) * half
    log = log_of(asked)
    kinds = {row[1]: row[2] for row in log if row[0] == "put"}
    given = [kinds[name] for name in given_by(house, giver, log).values() if name is not None]
    # What it gave more of, at least half of all, is asked for once more: hindsight gives the first calls the rest.
    again = one if given.count(kind) >= given.count(behind) else other
    return log_of(asked + (("call", again),) * half)
