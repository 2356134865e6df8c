"""What is an integer, a NAME, a HOUSE and so on: each function asks this of any value."""

MOST_LETTERS = 6
MOST_KINDS = 6
MOST_CALLS = 8


def is_integer(thing):
    """Tell whether thing is an integer."""
    return isinstance(thing, int) and not isinstance(thing, bool)


def is_name(thing):
    """Tell whether thing is a NAME."""
    if not isinstance(thing, str) or not 1 <= len(thing) <= MOST_LETTERS:
        return False
    return all(["a" <= letter <= "z" for letter in thing])


def is_house(thing):
    """Tell whether thing is a HOUSE."""
    if not isinstance(thing, tuple) or len(thing) != 2:
        return False
    return are_kinds(thing[0]) and are_calls(thing[0], thing[1])


def are_kinds(thing):
    """Tell whether thing can be the kinds of a house."""
    if not isinstance(thing, tuple) or not 1 <= len(thing) <= MOST_KINDS:
        return False
    # Only names go into a set: other values may have no hash.
    return all([is_name(kind) for kind in thing]) and len(set(thing)) == len(thing)


def are_calls(kinds, thing):
    """Tell whether thing can be the calls of a house with these kinds."""
    if not isinstance(thing, tuple) or not 1 <= len(thing) <= MOST_CALLS:
        return False
    # Only sets are compared by their order: other values may have none.
    if not all([are_in_order(kinds, call) and len(call) > 0 for call in thing]):
        return False
    if list(thing) != sorted(set(thing)):
        return False
    return all_stand_in(kinds, thing)


def all_stand_in(kinds, calls):
    """Tell whether each of the kinds stands in some of the calls."""
    return all([any([kind in call for call in calls]) for kind in kinds])


def in_order(kinds, part):
    """Return the tuple of those of kinds that stand in part, in the order of kinds."""
    return tuple([kind for kind in kinds if kind in part])


def are_in_order(kinds, thing):
    """Tell whether thing is a tuple of different ones of kinds, in their order."""
    return isinstance(thing, tuple) and thing == in_order(kinds, thing)


def is_set(house, thing):
    """Tell whether thing is a SET of the house."""
    return are_in_order(house[0], thing)


def is_call(house, thing):
    """Tell whether thing is one of the calls of the house."""
    return thing in house[1]


def has_just_keys(thing, keys):
    """Tell whether thing is a dict with just these keys, all different."""
    return isinstance(thing, dict) and len(thing) == len(keys) and all([key in thing for key in keys])


def is_amounts(house, thing):
    """Tell whether thing is AMOUNTS of the house."""
    if not has_just_keys(thing, house[0]):
        return False
    return all([is_integer(number) and number >= 0 for number in thing.values()])


def is_deed(house, thing):
    """Tell whether thing is a DEED of the house."""
    if not isinstance(thing, tuple) or len(thing) != 2:
        return False
    if thing[0] == "put":
        return thing[1] in house[0]
    return thing[0] == "call" and is_call(house, thing[1])


def is_stretch(house, thing):
    """Tell whether thing is a STRETCH of the house."""
    return isinstance(thing, tuple) and all([is_deed(house, deed) for deed in thing])


def is_row(house, thing):
    """Tell whether thing is a ROW of a log of the house."""
    if not isinstance(thing, tuple) or thing == ():
        return False
    if thing[0] == "put":
        return len(thing) == 3 and is_name(thing[1]) and thing[2] in house[0]
    if thing[0] == "drop":
        return len(thing) == 2 and is_name(thing[1])
    return is_deed(house, thing)


def is_log(house, thing):
    """Tell whether thing is a LOG of the house."""
    if not isinstance(thing, tuple) or not all([is_row(house, row) for row in thing]):
        return False
    names = [row[1] for row in thing if row[0] == "put"]
    return len(set(names)) == len(names)


def is_plain_log(house, thing):
    """Tell whether thing is a plain LOG of the house."""
    return is_log(house, thing) and all([row[0] != "drop" for row in thing])


def is_index(log, sort, thing):
    """Tell whether thing is the index of a row of this sort, "put", "call" or "drop", of a log."""
    return is_integer(thing) and 0 <= thing < len(log) and log[thing][0] == sort


def are_indexes(log, sort, thing):
    """Tell whether thing is an ascending tuple of indexes of rows of this sort."""
    if not isinstance(thing, tuple) or not all([is_index(log, sort, index) for index in thing]):
        return False
    return list(thing) == sorted(set(thing))
