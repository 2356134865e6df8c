"""Houses, stretches and logs read from texts."""

from calledbest.errors import NoText, Wrong
from calledbest.forms import MOST_CALLS, all_stand_in, are_in_order, are_kinds, is_deed, is_house, is_row


def words_in(line):
    """Return the list of the words of a line, without what a # leaves out."""
    shown = line.partition("#")[0]
    # Only blanks part words: split() alone would take other characters for blanks, too.
    return [word for word in shown.split(" ") if word != ""]


def lines_of(text):
    """Return the list of the words of each line, [] for a line that is skipped."""
    return [words_in(line) for line in text.split("\n")]


def read_house(text):
    """Return the house that a text shows."""
    if not isinstance(text, str):
        raise Wrong(0)
    lines = lines_of(text)
    kinds = ()
    calls = []
    for index, words in enumerate(lines):
        if words == []:
            continue
        if kinds == ():
            kinds = read_kinds(index, words)
        else:
            calls.append(read_call(index, words, kinds, calls))
    if kinds == () or not all_stand_in(kinds, calls):
        raise NoText(len(lines))
    return kinds, tuple(sorted(calls))


def read_kinds(index, words):
    """Return the kinds that the line with this index shows."""
    kinds = tuple(words[1:])
    if words[0] != "kinds" or not are_kinds(kinds):
        raise NoText(index)
    return kinds


def read_call(index, words, kinds, above):
    """Return the call of these kinds that the line with this index shows, below the calls above."""
    call = tuple(words[1:])
    if words[0] != "call" or call == () or not are_in_order(kinds, call):
        raise NoText(index)
    if call in above or len(above) == MOST_CALLS:
        raise NoText(index)
    return call


def row_of(words):
    """Return the deed or row that words show, if they show any."""
    if words[0] == "call":
        return "call", tuple(words[1:])
    return tuple(words)


def check_text(house, text):
    """Raise Wrong if these are not a house and a string."""
    if not is_house(house):
        raise Wrong(0)
    if not isinstance(text, str):
        raise Wrong(1)


def rows_in(text):
    """Return the list of the index and the row of each line that is not skipped."""
    return [(index, row_of(words)) for index, words in enumerate(lines_of(text)) if words != []]


def read_stretch(house, text):
    """Return the stretch that a text shows."""
    check_text(house, text)
    deeds = []
    for index, deed in rows_in(text):
        if not is_deed(house, deed):
            raise NoText(index)
        deeds.append(deed)
    return tuple(deeds)


def read_log(house, text):
    """Return the log that a text shows."""
    check_text(house, text)
    rows = []
    names = set()
    for index, row in rows_in(text):
        if not is_row(house, row):
            raise NoText(index)
        if row[0] == "put":
            if row[1] in names:
                raise NoText(index)
            names.add(row[1])
        rows.append(row)
    return tuple(rows)
