"""Logs in which the best first costs later calls."""

from calledbest.acts import log_of
from calledbest.forks import forks_of


def half_log(house, rounds):
    """Return a log of which half of the best is served, None if the house is nested."""
    forks = forks_of(house)
    if forks == []:
        return None
    one, other, kind, behind = forks[0]
    # The first call takes the kind ahead, the only one here that the second call accepts.
    deeds = (("put", kind), ("put", behind), ("call", one), ("call", other))
    return log_of(deeds * rounds)


def losing_log(house):
    """Return a log with the best 2 of which one call is served, None if the house is nested."""
    return half_log(house, 1)
