"""Which rows of a log can lack, if what some calls told is known."""

from calledbest.errors import TooMany
from calledbest.play import told_in_copy
from calledbest.shelf import do_row

MOST_ROWS = 30


def explains(house, log, lacks, answers):
    """Tell whether, in the copy without these rows, all calls that are known told what they are known to have told."""
    told = told_in_copy(log, lacks)
    return all([index in told and told[index] == name for index, name in answers.items()])


def ways_behind(ways, index, row, answers, most):
    """Return the list of lacks, and things that are there by them, behind a row, for the same ahead of it."""
    found = []
    for lacks, things in ways:
        if len(lacks) < most and index not in answers:
            found.append(((*lacks, index), dict(things)))
        name = do_row(things, row)
        if index not in answers or answers[index] == name:
            found.append((lacks, things))
    return found


def all_lacks(log, answers, most):
    """Return the list of all lacks of at most so many rows that explain the answers."""
    if len(log) > MOST_ROWS:
        raise TooMany(MOST_ROWS)
    ways = [((), {})]
    for index, row in enumerate(log):
        ways = ways_behind(ways, index, row, answers, most)
    return [lacks for lacks, things in ways]


def least_lacks(house, log, answers, most):
    """Return the ascending list of those lacks that explain the answers with as few rows as such ones can have."""
    found = all_lacks(log, answers, most)
    fewest = min([len(lacks) for lacks in found], default=0)
    return sorted([lacks for lacks in found if len(lacks) == fewest])


def how_sure(some, many):
    """Return "surely", "perhaps" or "never", as some of so many are all, a part or none."""
    if some == many:
        return "surely"
    return "never" if some == 0 else "perhaps"


def lacks_told(house, log, answers, most):
    """Return the dict from the indexes of all rows to how sure they lack, None if the answers cannot be explained."""
    found = all_lacks(log, answers, most)
    if found == []:
        return None
    return {
        index: how_sure(len([1 for lacks in found if index in lacks]), len(found)) for index in range(len(log))
    }
