"""Plain second ways for days, on which all things turn, and what their tests need: turns, day stretches, day logs."""

import itertools

from tests import plain
from tests.helpers import deeds_of, random_log


def random_turn(chance, house):
    """Return any turn, its keys in any order."""
    kinds = list(house[0])
    chance.shuffle(kinds)
    return {kind: chance.choice([*house[0], None]) for kind in kinds}


def random_turns(chance, house, many):
    """Return so many turns, some of them such that kinds change places, all stay, or all perish."""
    turns = []
    for _ in range(many):
        places = dict(zip(house[0], chance.sample(house[0], len(house[0]))))
        stay = {kind: kind for kind in house[0]}
        perish = {kind: None for kind in house[0]}
        turns.append(chance.choice([random_turn(chance, house), random_turn(chance, house), places, places, stay, perish]))
    return tuple(turns)


def random_day_stretch(chance, house, turns, length):
    """Return a day stretch of so many deeds."""
    deeds = deeds_of(house) + [("turn", index) for index in range(len(turns))] * 2
    return tuple(chance.choice(deeds) for _ in range(length))


def random_day_log(chance, house, turns, length):
    """Return a day log of so many rows."""
    rows = list(random_log(chance, house, length, False))
    for at in range(len(rows)):
        if turns and chance.random() < 0.25:
            rows[at] = ("turn", chance.randrange(len(turns)))
    return tuple(rows)


def acted(house, turns, stretch, amounts):
    """Return the amounts behind a day stretch, each thing turned by itself."""
    left = dict(amounts)
    for deed in stretch:
        if deed[0] == "turn":
            behind = {kind: 0 for kind in house[0]}
            for kind in left:
                for _ in range(left[kind]):
                    if turns[deed[1]][kind] is not None:
                        behind[turns[deed[1]][kind]] += 1
            left = behind
        else:
            left = plain.acted(house, (deed,), left)
    return left


def told(turns, log):
    """Return the dict from the indexes of the calls to what they tell, by a plain walk."""
    there, names = [], {}
    for index, row in enumerate(log):
        if row[0] == "put":
            there.append((row[1], row[2]))
        elif row[0] == "turn":
            turned = [(name, turns[row[1]][kind]) for name, kind in there]
            there = [thing for thing in turned if thing[1] is not None]
        else:
            fits = [thing for kind in row[1] for thing in there if thing[1] == kind]
            names[index] = fits[0][0] if fits else None
            there = [thing for thing in there if thing not in fits[:1]]
    return names


def pairs(turns, log):
    """Return the list of the tuples (put, call) such that the call accepts what the kind of the put has become."""
    found = []
    for put, call in itertools.combinations(range(len(log)), 2):
        if log[put][0] == "put" and log[call][0] == "call":
            kind = log[put][2]
            for row in log[put:call]:
                if row[0] == "turn" and kind is not None:
                    kind = turns[row[1]][kind]
            if kind in log[call][1]:
                found.append((put, call))
    return found


def givings(turns, log):
    """Return the list of all givings of a day log, each call tried with each put."""
    found = [{}]
    beside = pairs(turns, log)
    for call in plain.indexes_of(log, "call"):
        puts = [put for put, later in beside if later == call]
        found = found + [{**giving, call: put} for giving in found for put in puts if put not in giving.values()]
    return found


def best(turns, log):
    """Return the best of a day log."""
    beside = pairs(turns, log)
    return plain.most_mates({
        call: [put for put, later in beside if later == call] for call in plain.indexes_of(log, "call")
    })


def kind_by(turns, kind, word):
    """Return what a kind becomes by a word."""
    for index in word:
        kind = None if kind is None else turns[index][kind]
    return kind


def words(turns, length):
    """Return the list of all words up to a length, shorter ones first, of one length ascending."""
    return [word for size in range(length + 1) for word in itertools.product(range(len(turns)), repeat=size)]


def parts_later(house, turns, one, other, length):
    """Return the first word up to a length, and the first call, by which two kinds part, all words tried."""
    for word in words(turns, length):
        mine, its = kind_by(turns, one, word), kind_by(turns, other, word)
        for call in house[1]:
            if mine in call and its not in call:
                return word, call
    return None


def back(turn, part):
    """Return the set of the kinds that become kinds of part."""
    return {kind for kind in turn if turn[kind] in part}


def is_plain_turn(house, turn):
    """Tell whether what leads back from each beginning set is one."""
    begins = [set(part) for part in plain.beginning_sets(house)]
    return all(back(turn, part) in begins for part in begins)


def plain_turns(chance, house, many):
    """Return so many turns that are plain, most of them not the one by which all stays."""
    turns = [{kind: kind for kind in house[0]}, {kind: None for kind in house[0]}]
    for _ in range(40 * many):
        turn = random_turn(chance, house)
        if is_plain_turn(house, turn):
            turns.insert(0, turn)
    return tuple(chance.choice(turns[:len(turns) - chance.randint(0, 1)]) for _ in range(many))


def deed_brief(house, turns, deed):
    """Return the day brief of a deed."""
    begins = plain.beginning_sets(house)
    if deed[0] == "turn":
        return {whole: {part: 0 for part in begins if set(part) <= back(turns[deed[1]], whole)} for whole in begins}
    if deed[0] == "put":
        return {whole: {part: int(deed[1] in whole) for part in begins if set(part) <= set(whole)} for whole in begins}
    return {
        whole: {
            part: -int(bool(set(deed[1]) & set(whole) and set(deed[1]) & set(part)))
            for part in begins if set(part) <= set(whole)
        }
        for whole in begins
    }


def day_brief(house, turns, stretch):
    """Return the day brief of a day stretch, joined deed by deed as [25] and [47] say."""
    begins = plain.beginning_sets(house)
    brief = {whole: {part: 0 for part in begins if set(part) <= set(whole)} for whole in begins}
    for deed in stretch:
        later = deed_brief(house, turns, deed)
        brief = {
            whole: {
                last: max(later[whole][part] + brief[part][last] for part in later[whole] if last in brief[part])
                for last in begins if any(last in brief[part] for part in later[whole])
            }
            for whole in begins
        }
    return brief
