"""Several mends of a log, and what a mend lets calls tell."""

from calledbest.play import told_by
from calledbest.wander import apart_by, log_with, mended


def mended_by(log, mends):
    """Return the log with all of these mends."""
    return log_with(log, mends)


def differs(house, log, mends):
    """Return the list of the names that are there with the mends alone, and without them alone, for each moment."""
    return apart_by(log, mends)


def index_behind(mend, index):
    """Return the index in the mended log of a row of the log that is not left out."""
    if mend[0] == "more":
        return index + 1 if index >= mend[1] else index
    return index - 1 if index > mend[1] else index


def new_told(house, log, mend):
    """Return the ascending list of the calls that tell something else in the mended log."""
    told = told_by(house, log)
    new = told_by(house, mended(log, mend))
    kept = [index for index in told if mend != ("less", index)]
    return [index for index in kept if new[index_behind(mend, index)] != told[index]]
