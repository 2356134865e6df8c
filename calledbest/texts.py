"""Houses, stretches and logs as texts."""


def joined_lines(lines):
    """Return the text of lines, each one a list of words."""
    return "\n".join([" ".join(words) for words in lines])


def show_house(house):
    """Return the text of a house."""
    return joined_lines([["kinds", *house[0]]] + [["call", *call] for call in house[1]])


def words_of(row):
    """Return the words of a deed, or of a row of a log."""
    if row[0] == "call":
        return ["call", *row[1]]
    return list(row)


def show_stretch(stretch):
    """Return the text of a stretch."""
    return joined_lines([words_of(deed) for deed in stretch])


def show_log(log):
    """Return the text of a log."""
    return joined_lines([words_of(row) for row in log])
