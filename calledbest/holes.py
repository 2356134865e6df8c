"""What further deeds change that stood anywhere in a stretch, and are not known of.

A LAYER tells of a moment of the stretch. It is the dict from the NUMBERS that can be there, amounts as tuples, to
tuples (used, ahead, deed): the least number of further deeds up to there, the NUMBERS ahead of the last deed, and this
deed if it is a further one, otherwise None. At first, where nothing is done, ahead is None.
"""

from calledbest.acts import count_piled, kind_on, piled, piled_behind
from calledbest.errors import NoIndex, NoNumber, TooMany
from calledbest.forms import is_index

MOST_FURTHER = 3


def keep_way(layer, numbers, way):
    """Keep a way to these numbers in a layer if it is the first one, or has fewer further deeds."""
    if numbers not in layer or layer[numbers][0] > way[0]:
        layer[numbers] = way


def widen(house, layer, sorts, most):
    """Keep in a layer, too, what further deeds at its moment lead to."""
    for used in range(most):
        starts = [numbers for numbers, way in layer.items() if way[0] == used]
        for numbers in starts:
            for deed in sorts:
                keep_way(layer, piled_behind(house, deed, numbers), (used + 1, numbers, deed))


def layer_behind(house, layer, deed):
    """Return the layer behind a deed of the stretch."""
    found = {}
    for numbers, way in layer.items():
        keep_way(found, piled_behind(house, deed, numbers), (way[0], numbers, None))
    return found


def layers_of(house, amounts, stretch, sorts, most):
    """Return the list of the layers of all moments of a stretch."""
    layers = [{piled(house, amounts): (0, None, None)}]
    widen(house, layers[0], sorts, most)
    for deed in stretch:
        layer = layer_behind(house, layers[-1], deed)
        widen(house, layer, sorts, most)
        layers.append(layer)
    return layers


def check_most(most):
    """Raise TooMany if there can be more further deeds than are asked for here."""
    if most > MOST_FURTHER:
        raise TooMany(MOST_FURTHER)


def holes_range(house, amounts, stretch, sorts, most, part):
    """Return the least and the greatest number of things of the kinds of part that can be there behind all."""
    check_most(most)
    layer = layers_of(house, amounts, stretch, sorts, most)[-1]
    counts = [count_piled(house, numbers, part) for numbers in layer]
    return min(counts), max(counts)


def stretch_back(stretch, layers, numbers):
    """Return the stretch with those further deeds that lead to these numbers behind all."""
    deeds = []
    for at in reversed(range(len(layers))):
        _, ahead, deed = layers[at][numbers]
        while deed is not None:
            deeds.append(deed)
            numbers = ahead
            _, ahead, deed = layers[at][numbers]
        if at > 0:
            deeds.append(stretch[at - 1])
            numbers = ahead
    return tuple(reversed(deeds))


def holes_stretch(house, amounts, stretch, sorts, most, part, number):
    """Return a stretch with such further deeds behind which there are so many things of the kinds of part."""
    check_most(most)
    layers = layers_of(house, amounts, stretch, sorts, most)
    for numbers in layers[-1]:
        if count_piled(house, numbers, part) == number:
            return stretch_back(stretch, layers, numbers)
    raise NoNumber(number)


def taken_perhaps(house, amounts, stretch, sorts, most, index):
    """Return the list of the kinds of which a call can take a thing, and None behind them if it can take none."""
    check_most(most)
    if not is_index(stretch, "call", index):
        raise NoIndex(index)
    layer = layers_of(house, amounts, stretch[:index], sorts, most)[-1]
    taken = {kind_on(house, stretch[index][1], numbers): True for numbers in layer}
    return [kind for kind in (*house[0], None) if kind in taken]


def sure_served(house, amounts, stretch, sorts, most, index):
    """Return "surely", "perhaps" or "never", as a call is served in all cases, in some, or in none."""
    taken = taken_perhaps(house, amounts, stretch, sorts, most, index)
    if None not in taken:
        return "surely"
    return "never" if taken == [None] else "perhaps"
