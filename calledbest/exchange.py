"""Exchanges of neighbouring deeds."""

from calledbest.acts import LETTERS, no_amounts
from calledbest.errors import TooMany
from calledbest.forks import forks_between

MOST_STRETCHES = 2000


def parting_pairs(one, other):
    """Return the list of the tuples of kinds such that one thing of each tells the order of two calls."""
    return [fork[2:] for fork in forks_between(one, other) + forks_between(other, one)]


def may_change(house, one, other):
    """Tell whether two deeds that follow one another may change places."""
    if one[0] == "put" and other[0] == "put":
        return True
    if one[0] == "put":
        return one[1] not in other[1]
    if other[0] == "put":
        return other[1] not in one[1]
    return parting_pairs(one[1], other[1]) == []


def parted_by(house, one, other):
    """Return amounts of which two deeds make unlike ones, as they come first or last, None if there are none."""
    if may_change(house, one, other):
        return None
    amounts = no_amounts(house)
    # An empty store tells a put and a call apart; two calls need both kinds of a fork.
    if one[0] == "call" and other[0] == "call":
        for kind in parting_pairs(one[1], other[1])[0]:
            amounts[kind] = 1
    return amounts


def letters_of(stretch):
    """Return the dict from the different deeds of a stretch to letters, ascending as the deeds do."""
    # Stretches as strings are quick to cut, to join and to compare; a house has at most fourteen deeds.
    return {deed: LETTERS[at] for at, deed in enumerate(sorted(set(stretch)))}


def word_of(letters, stretch):
    """Return the string of the letters of a stretch."""
    return "".join([letters[deed] for deed in stretch])


def stretch_shown(letters, word):
    """Return the stretch that a string of letters stands for."""
    deeds = {letters[deed]: deed for deed in letters}
    return tuple([deeds[letter] for letter in word])


def changing_pairs(house, letters):
    """Return the dict from each two different letters whose deeds may change to the two changed."""
    return {
        letters[one] + letters[other]: letters[other] + letters[one]
        for one in letters for other in letters
        if one != other and may_change(house, one, other)
    }


def words_beside(changing, word):
    """Return the list of the strings to which one exchange leads."""
    pairs = [word[at:at + 2] for at in range(len(word) - 1)]
    return [word[:at] + changing[pair] + word[at + 2:] for at, pair in enumerate(pairs) if pair in changing]


def exchanged_to(house, stretch):
    """Return the ascending list of all stretches to which exchanges lead."""
    letters = letters_of(stretch)
    changing = changing_pairs(house, letters)
    first = word_of(letters, stretch)
    seen = {first}
    waiting = [first]
    while waiting != []:
        word = waiting.pop()
        for other in words_beside(changing, word):
            if other not in seen:
                seen.add(other)
                waiting.append(other)
        if len(seen) > MOST_STRETCHES:
            raise TooMany(MOST_STRETCHES)
    return [stretch_shown(letters, word) for word in sorted(seen)]


def place_to_front(changing, word):
    """Return the place of the least letter that exchanges can bring to the front."""
    best = 0
    passed = ""
    for at, letter in enumerate(word):
        if letter < word[best] and all([ahead + letter in changing for ahead in passed]):
            best = at
        if letter not in passed:
            passed = passed + letter
    return best


def least_word(changing, word):
    """Return the least string to which exchanges lead."""
    least = ""
    rest = word
    while rest != "":
        at = place_to_front(changing, rest)
        least = least + rest[at]
        rest = rest[:at] + rest[at + 1:]
    return least


def least_exchanged(house, stretch):
    """Return the least stretch to which exchanges lead."""
    letters = letters_of(stretch)
    word = least_word(changing_pairs(house, letters), word_of(letters, stretch))
    return stretch_shown(letters, word)


def same_by_exchange(house, one, other):
    """Tell whether exchanges lead from one stretch to another one."""
    # Exchanges go both ways, so those that lead to each other have the same least stretch.
    return least_exchanged(house, one) == least_exchanged(house, other)
