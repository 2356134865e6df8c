"""Day briefs: day stretches of a nested house, by turns that are plain, as so many integers."""

from calledbest.begins import amounts_of, beginning_sets, count_in, is_within
from calledbest.errors import NoBrief
from calledbest.forks import check_nested
from calledbest.turns import acted_days


def leads_back(house, turn, part):
    """Return the SET of the kinds that become kinds of part."""
    return tuple([kind for kind in house[0] if turn[kind] in part])


def is_plain_turn(house, turn):
    """Tell whether what leads back from each beginning set is a beginning set."""
    sets = beginning_sets(house)
    return all([leads_back(house, turn, part) in sets for part in sets])


def check_plain(house, turns):
    """Raise NoBrief with the least index of a turn that is not plain."""
    for index, turn in enumerate(turns):
        if not is_plain_turn(house, turn):
            raise NoBrief(index)


def led_back(house, turns, stretch, part):
    """Return the SET of the kinds that become kinds of part by all turns of a day stretch."""
    for deed in reversed(stretch):
        if deed[0] == "turn":
            part = leads_back(house, turns[deed[1]], part)
    return part


def day_brief(house, turns, stretch):
    """Return the day brief of a day stretch."""
    check_nested(house)
    check_plain(house, turns)
    sets = beginning_sets(house)
    backs = {whole: led_back(house, turns, stretch, whole) for whole in sets}
    brief = {whole: {} for whole in sets}
    for part in sets:
        # With as many things of each kind of B as calls could take, and no others, n(B) + M(A, B) is the greatest sum
        # for each A in which all these things come to be: what n(A) is behind the stretch tells M(A, B).
        ahead = {kind: len(stretch) if kind in part else 0 for kind in house[0]}
        behind = acted_days(house, turns, stretch, ahead)
        for whole in sets:
            if is_within(part, backs[whole]):
                brief[whole][part] = count_in(behind, whole) - count_in(ahead, part)
    return brief


def acted_by_days(house, brief, amounts):
    """Return the amounts behind a day stretch with this day brief."""
    return amounts_of(house, {
        whole: max([count_in(amounts, part) + number for part, number in brief[whole].items()]) for whole in brief
    })
