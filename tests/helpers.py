"""What several tests need: any values, small houses, and a case that asks for errors."""

import copy
import itertools
import random
import unittest

from calledbest.errors import NoKind, Wrong
from calledbest.store import Store

AB = (("a", "b"), (("a", "b"), ("b",)))
FORKED = (("a", "b"), (("a",), ("a", "b")))
CROSSED = (("a", "b"), (("a",), ("a", "b"), ("b",)))
ONE = (("a",), (("a",),))
SIX = ("f", "e", "d", "c", "b", "a")
GREATEST = (SIX, (("a",), ("b", "a"), ("c",), ("d",), ("e", "c"), ("f",), ("f", "d", "a"), ("f", "e", "d", "c", "b", "a")))


def deep(depth, inner, wrap):
    """Return a value that is wrapped so often."""
    for _ in range(depth):
        inner = wrap(inner)
    return inner


def any_values():
    """Return a new list of values of every kind of [R]."""
    return [
        None, True, False, 0, 1, -1, 2, 10 ** 39, -(10 ** 39),
        "", " ", "a", "b", "z", "aa", "put", "call", "drop", "kinds", "a b", "A", "a\nb", "\n", "~", "kinds a\ncall a", "zzzzzzz",
        (), [], {}, (1,), (True,), (None,), ("a",), ("b",), ("b", "a"), ("a", "a"), ["a"], ["a", "b"], [("a",)],
        (["a"],), (("a",),), (("a",), (("a",),), 1), (("a",), [("a",)]), (["a"], (("a",),)), [("a",), (("a",),)],
        {"a": 1}, {"a": True}, {"a": [1]}, {"z": 1}, {1: 2}, {None: None}, {("a",): {(): 0}}, {(): {(): 0}}, {(): {}},
        ("put", "a", "b", "c"), ("put",), ("call",), ("call", ["a"]), ("put", ["a"]), ["put", "a"], ("drop",), (1, 2, 3),
        ("call", "a"), ("take", "a"), ("put", True), (("put",),), (("call",),), (("put", "a", "a", "a"),),
        Store(AB), NoKind("a"), Wrong(0), (Store(AB),), [NoKind("a")], {"a": Store(AB)},
        deep(18, "a", lambda inner: (inner,)), deep(18, "a", lambda inner: [inner]), deep(18, "a", lambda inner: {"a": inner}),
        tuple(["a"] * 2999), ["put"] * 2999, {number: number for number in range(1000)},
    ]


def houses_of(kinds):
    """Return all houses with these kinds and at most eight calls."""
    sets = [part for size in range(1, len(kinds) + 1) for part in itertools.combinations(kinds, size)]
    return [
        (kinds, tuple(sorted(calls)))
        for size in range(1, min(8, len(sets)) + 1)
        for calls in itertools.combinations(sets, size)
        if all(any(kind in call for call in calls) for kind in kinds)
    ]


def small_houses():
    """Return all houses of some one, two and three kinds, also of kinds that do not ascend."""
    orders = [("a",), ("a", "b"), ("b", "a"), ("a", "b", "c"), ("c", "a", "b")]
    return [house for kinds in orders for house in houses_of(kinds)]


def random_houses(seed, many, most_kinds=6):
    """Return so many houses, some of them large."""
    chance = random.Random(seed)
    houses = []
    while len(houses) < many:
        kinds = tuple(chance.sample(["a", "b", "c", "d", "ee", "zzzzzz"], chance.randint(1, most_kinds)))
        sets = [part for size in range(1, len(kinds) + 1) for part in itertools.combinations(kinds, size)]
        calls = chance.sample(sets, chance.randint(1, min(8, len(sets))))
        if all(any(kind in call for call in calls) for kind in kinds):
            houses.append((kinds, tuple(sorted(calls))))
    return houses


def nested_random_houses(seed, many):
    """Return so many nested houses: the calls are ends of paths in a wood of the kinds."""
    chance = random.Random(seed)
    houses = []
    for _ in range(many):
        kinds = tuple(chance.sample(["a", "b", "c", "d", "ee", "zzzzzz"], chance.randint(1, 6)))
        behind = {kind: chance.choice([None, *kinds[at + 1:]]) for at, kind in enumerate(kinds)}
        calls = set()
        for kind in kinds:
            call = []
            while kind is not None:
                call.append(kind)
                kind = behind[kind]
            calls.add(tuple(call))
        houses.append((kinds, tuple(sorted(calls))))
    return houses


def deeds_of(house):
    """Return all deeds of a house."""
    return [("put", kind) for kind in house[0]] + [("call", call) for call in house[1]]


def random_stretch(chance, house, length):
    """Return a stretch of so many deeds."""
    deeds = deeds_of(house)
    return tuple(chance.choice(deeds) for _ in range(length))


def random_log(chance, house, length, drops=True):
    """Return a log of so many rows."""
    names = ["".join(letters) for letters in itertools.product("abcxyz", repeat=4)]
    chance.shuffle(names)
    rows = []
    for _ in range(length):
        sort = chance.choice(["put", "put", "call", "call", "drop"] if drops else ["put", "call"])
        if sort == "put":
            rows.append(("put", names.pop(), chance.choice(house[0])))
        elif sort == "call":
            rows.append(("call", chance.choice(house[1])))
        else:
            put = [row[1] for row in rows if row[0] == "put"]
            rows.append(("drop", chance.choice(put + names[-2:])))
    return tuple(rows)


def random_row(chance, house, log):
    """Return a row that can come into a log: the name of a put is new, that of a drop any one."""
    sort = chance.choice(["put", "call", "drop"])
    if sort == "put":
        return "put", "".join(chance.sample("mnopqr", 5)), chance.choice(house[0])
    if sort == "call":
        return "call", chance.choice(house[1])
    return "drop", chance.choice([row[1] for row in log if row[0] == "put"] + ["never"])


def mends_of(chance, house, log):
    """Return a list of mends of a log with one at each place, and one for each row."""
    more = [("more", index, random_row(chance, house, log)) for index in range(len(log) + 1)]
    return more + [("less", index) for index in range(len(log))]


def all_amounts(house, most):
    """Return all amounts with at most so many things of each kind, keys not ascending."""
    kinds = sorted(house[0], reverse=True)
    return [dict(zip(kinds, numbers)) for numbers in itertools.product(range(most + 1), repeat=len(kinds))]


def random_giver(chance, house, marks, refuses=True):
    """Return a giver with so many marks, its keys in any order."""
    keys = [
        (mark, call, there)
        for mark in range(marks) for call in house[1]
        for size in range(len(call) + 1) for there in itertools.combinations(call, size)
    ]
    chance.shuffle(keys)
    gives = {}
    for key in keys:
        gifts = [None] if key[2] == () else list(key[2]) + [None] * refuses
        gives[key] = (chance.choice(gifts), chance.randrange(marks))
    notes = {(mark, kind): chance.randrange(marks) for mark in range(marks) for kind in house[0]}
    return marks, gives, notes


def turned_about(table):
    """Return the dict with its keys in the other order."""
    return {key: table[key] for key in reversed(list(table))}


class CallCase(unittest.TestCase):
    """A case that asks for errors, and for what holds of every function."""

    def assert_raises(self, error, fields, function, *arguments):
        """The call raises just this error, and it keeps these very objects."""
        with self.assertRaises(error) as caught:
            function(*arguments)
        self.assertIs(caught.exception.__class__, error)
        kept = vars(caught.exception)
        self.assertEqual(list(kept), list(fields))
        for name, value in fields.items():
            if any(value is argument for argument in arguments):
                self.assertIs(kept[name], value)
            else:
                self.assertEqual(kept[name], value)
                self.assertIs(kept[name].__class__, value.__class__)

    def assert_truth(self, expected, told):
        """What is told is True or False itself."""
        self.assertIs(told, expected)

    def assert_steady(self, function, *arguments):
        """The function leaves its arguments as they are, and tells anew what may be changed."""
        copies = copy.deepcopy(arguments)
        told = function(*arguments)
        kept = copy.deepcopy(told)
        self.assertEqual(arguments, copies)
        self.assert_ascending(told)
        self.assert_apart(told, arguments)
        spoil(told)
        self.assertEqual(arguments, copies)
        again = function(*arguments)
        self.assertEqual(again, kept)
        return again

    def assert_ascending(self, told):
        """Dicts that are told have ascending keys."""
        for part in parts_of(told):
            if isinstance(part, dict):
                self.assertEqual(list(part), sorted(part))

    def assert_apart(self, told, arguments):
        """No two lists or dicts that are told are one, nor are they the arguments'."""
        changeable = [id(part) for part in parts_of(told) if isinstance(part, (list, dict))]
        self.assertEqual(len(changeable), len(set(changeable)))
        self.assertFalse(set(changeable) & {id(part) for part in parts_of(list(arguments))})


def parts_of(value):
    """Return the list of a value and all values in it."""
    parts = [value]
    if isinstance(value, (list, tuple)):
        for item in value:
            parts.extend(parts_of(item))
    if isinstance(value, dict):
        for key, item in value.items():
            parts.extend(parts_of(key) + parts_of(item))
    return parts


def spoil(value):
    """Change all lists and dicts in a value."""
    for part in parts_of(value):
        if isinstance(part, list):
            part.append("spoilt")
        if isinstance(part, dict):
            part["spoilt"] = "spoilt"
