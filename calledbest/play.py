"""Logs played from an empty store."""

from calledbest.shelf import amounts_on, do_row


def told_in_copy(log, lacks):
    """Return the dict from the indexes, in the log, of the calls that do not lack to what they tell without lacks."""
    things = {}
    told = {}
    for index, row in enumerate(log):
        if index not in lacks:
            name = do_row(things, row)
            if row[0] == "call":
                told[index] = name
    return told


def told_by(house, log):
    """Return the dict from the indexes of the calls to the names that they tell, or None."""
    return told_in_copy(log, ())


def taken_by(house, log):
    """Return the dict from the indexes of the calls that are served to those of the puts of what they take."""
    puts = {row[1]: index for index, row in enumerate(log) if row[0] == "put"}
    return {index: puts[name] for index, name in told_by(house, log).items() if name is not None}


def things_at(log, moment):
    """Return the things that are there at a moment of a log."""
    things = {}
    for row in log[:moment]:
        do_row(things, row)
    return things


def there_at(house, log, moment):
    """Return the list of the names and kinds of the things that are there at a moment."""
    return list(things_at(log, moment).items())


def amounts_at(house, log, moment):
    """Return the amounts of what is there at a moment."""
    return amounts_on(house, things_at(log, moment))


def served_at(house, log):
    """Return the list of how many calls have been served, for each moment."""
    return tally(log, taken_by(house, log))


def tally(log, indexes):
    """Return the list of how many of the rows done are among those with these indexes, for each moment."""
    told = {index: True for index in indexes}
    numbers = [0]
    for index in range(len(log)):
        numbers.append(numbers[index] + (1 if index in told else 0))
    return numbers
