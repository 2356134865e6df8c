"""[12]: what is an integer, a NAME, a HOUSE and so on."""

import copy
import unittest

from calledbest import forms
from tests.helpers import AB, CROSSED, GREATEST, ONE, CallCase, any_values, deeds_of, houses_of, random_houses, small_houses

NINE = (("a", "b", "c", "d"), (
    ("a",), ("a", "b"), ("a", "b", "c"), ("a", "b", "c", "d"), ("b",), ("b", "c"), ("b", "c", "d"), ("c",), ("d",),
))


class FormsTest(CallCase):

    def ask(self, function, good, wrong, *house):
        """The function is True of all good things, and False of all wrong ones and of no other of the any values."""
        for thing in good:
            self.assert_truth(True, function(*house, thing))
        for thing in wrong:
            self.assert_truth(False, function(*house, thing))
        for thing in any_values():
            known = [other for other in good if same(other, thing)]
            self.assert_truth(known != [], function(*house, thing))

    def test_integers(self):
        self.ask(
            forms.is_integer,
            [0, 1, -1, 2, 10 ** 39, -(10 ** 39), 7, 10 ** 40],
            [True, False, None, "1", (1,), [1], {1: 1}],
        )

    def test_names(self):
        self.ask(
            forms.is_name,
            ["a", "b", "z", "aa", "put", "call", "drop", "kinds", "azazaz", "abcdef", "zzzzzz"],
            ["", "aaaaaaa", "A", "aB", "a b", " a", "a ", "a1", "1", "a_", "a\n", "`", "{", "-", "\n", ("a",), ["a"], None, 1],
        )

    def test_houses(self):
        good = [ONE, AB, CROSSED, GREATEST, (("zzzzzz", "a"), (("a",), ("zzzzzz", "a"))), *small_houses()]
        good.extend(random_houses(12, 100))
        # Bounds of [4] are not asked, those of [2] are: at most six kinds, at most eight calls.
        wrong = [
            (), ("a",), (("a",),), (("a",), (("a",),), ()), [("a",), (("a",),)], (["a"], (("a",),)), (("a",), [("a",)]),
            (("a",), (["a"],)), (("a",), ("a",)), (("a",), ()), ((), ()), ((), ((),)), (("a",), ((),)), (("a",), ((), ("a",))),
            (("a", "a"), (("a",),)), (("a", "a"), (("a", "a"),)), (("A",), (("A",),)), (("",), (("",),)), ((1,), ((1,),)),
            (("aaaaaaa",), (("aaaaaaa",),)), ((None,), ((None,),)), ((["a"],), ((["a"],),)), ((("a",),), ((("a",),),)),
            (("a", "b"), (("a",),)), (("a",), (("a",), ("b",))), (("a", "b"), (("b", "a"),)), (("b", "a"), (("a", "b"),)),
            (("a", "b"), (("b",), ("a",))), (("a", "b"), (("a", "b"), ("a",))), (("a",), (("a",), ("a",))),
            (("a",), (("a", "a"),)), (("a", "b"), (("a", "b"), ("a", "b"))), (("a", "b"), (("a", "b", "b"),)),
            (("a",), (("a",), 1)), (("a",), (("a",), None)), (("a",), (1, ("a",))), (("a",), ({"a": 1},)), (("a",), "a"),
            ("a", (("a",),)), ("a", "a"), (("a",), {("a",): 1}), ({"a": 1}, (("a",),)), (("a", True), (("a", True),)),
            (tuple("abcdefg"), (tuple("abcdefg"),)), NINE, (NINE[0], NINE[1][1:] + (("z",),)), (None, None),
        ]
        self.ask(forms.is_house, good, wrong)
        self.assert_truth(True, forms.is_house((NINE[0], NINE[1][:3] + NINE[1][4:])))
        self.assert_truth(True, forms.is_house((tuple("abcdef"), (tuple("abcdef"),))))

    def test_houses_with_one_thing_wrong(self):
        for kinds, calls in random_houses(13, 60):
            self.assert_truth(True, forms.is_house((kinds, calls)))
            self.assert_truth(False, forms.is_house([kinds, calls]))
            self.assert_truth(False, forms.is_house((list(kinds), calls)))
            self.assert_truth(False, forms.is_house((kinds, list(calls))))
            self.assert_truth(False, forms.is_house((kinds, calls[:-1] + (list(calls[-1]),))))
            self.assert_truth(False, forms.is_house((kinds + kinds[:1], calls)))
            self.assert_truth(False, forms.is_house((kinds, calls + calls[-1:])))
            if len(calls) > 1:
                self.assert_truth(False, forms.is_house((kinds, calls[::-1])))
            if len(kinds) > 1 and any(len(call) > 1 for call in calls):
                self.assert_truth(False, forms.is_house((kinds[::-1], calls)))
            self.assert_truth(False, forms.is_house((kinds, calls[:-1] + (calls[-1] + ("q",),))))

    def test_sets(self):
        self.ask(
            forms.is_set,
            [(), ("a",), ("b",), ("b", "a"), ("c",), ("b", "c"), ("c", "a"), ("b", "c", "a")],
            [("a", "b"), ("a", "a"), ("a", "c"), ["a"], ("d",), ("b", "d"), "b", {"a": 1}, ("b", None), (["b"],), ("b", "c", "a", "a")],
            (("b", "c", "a"), (("b", "c", "a"),)),
        )

    def test_calls(self):
        self.ask(
            forms.is_call,
            [("b",), ("a", "b")],
            [("a",), (), ["b"], "b", ("b", "a"), ["a", "b"], ("call", ("b",)), None],
            AB,
        )
        for house in small_houses():
            for size in houses_of(house[0]):
                for part in size[1]:
                    self.assert_truth(part in house[1], forms.is_call(house, part))

    def test_amounts(self):
        good = [{"a": 0, "b": 0}, {"b": 3, "a": 1}, {"a": 10 ** 9, "b": 10 ** 30}, {"a": 10 ** 40, "b": 0}]
        wrong = [
            {}, {"a": 0}, {"a": 0, "b": 0, "c": 0}, {"a": 0, "b": -1}, {"a": 0, "b": True}, {"a": False, "b": 0},
            {"a": 0, "b": None}, {"a": 0, "b": "1"}, {"a": 0, "b": [1]}, {"a": 0, "c": 0}, (("a", 0), ("b", 0)),
            [("a", 0), ("b", 0)], {"a": 0, ("b",): 0}, {"a": 0, "b": 0, None: 0}, {0: "a", 1: "b"}, None, ("a", "b"),
        ]
        self.ask(forms.is_amounts, good, wrong, AB)
        self.assert_truth(True, forms.is_amounts(ONE, {"a": 1}))
        self.assert_truth(False, forms.is_amounts(ONE, {"a": True}))

    def test_deeds(self):
        wrong = [
            (), ("put",), ("put", "c"), ("put", "a", "b"), ("put", "x", "a"), ["put", "a"], ("put", ("a",)), ("call", "b"),
            ("call", ("a",)), ("call", ("b", "a")), ("call", ["b"]), ("call", ("b",), 1), ("drop", "a"), ("Put", "a"),
            (None, "a"), (True, "a"), ("take", ("b",)), ("put", ("b",)), (None, ("b",)), ("call", ("b",), ()), ("put", None), ("put", ["a"]), ("call", None), ("call", {}), "put a", {"put": "a"},
        ]
        self.ask(forms.is_deed, deeds_of(AB), wrong, AB)

    def test_stretches(self):
        good = [(), (("put", "a"),), (("put", "b"), ("call", ("b",)), ("put", "b"), ("call", ("a", "b"))), (("put", "a"),) * 300]
        wrong = [
            [], [("put", "a")], ("put", "a"), (("put", "c"),), (("put", "a"), ("call", ("a",))), (["put", "a"],), {}, None, "",
            (("put", "a"), None), (("put", "x", "a"),), (("put", "a"), ("drop", "a")), ((),), {("put", "a"): 1},
        ]
        self.ask(forms.is_stretch, good, wrong, AB)

    def test_logs(self):
        plain = [
            (), (("put", "x", "a"),), (("put", "x", "a"), ("put", "y", "a"), ("call", ("b",))), (("call", ("a", "b")),) * 300,
            (("put", "put", "a"), ("put", "call", "b"), ("call", ("b",))),
        ]
        dropping = [
            (("drop", "x"),), (("drop", "x"), ("put", "x", "a")), (("put", "x", "b"), ("drop", "x"), ("drop", "x")),
        ]
        wrong = [
            [], [("put", "x", "a")], (("put", "x", "a"), ("put", "x", "a")), (("put", "x", "a"), ("drop", "x"), ("put", "x", "b")),
            (("put", "a"),), (("put", "X", "a"),), (("put", "", "a"),), (("put", "sevenes", "a"),), (("put", 1, "a"),),
            (("put", ["x"], "a"),), (("put", "x", "c"),), (("put", "x", ["a"]),), (("put", "x", "a", "a"),), (["put", "x", "a"],),
            (("call", ("a",)),), (("call", ["b"]),), (("call", ("b",), ("b",)),), (("call",),), (("drop",),), (("drop", "x", "a"),),
            (("drop", "X"),), (("drop", None),), (("drop", ["x"]),), (("drop", ""),), ("drop", "x"), (None,), (1, 2), None, {}, "",
            (("take", "x"),), (("take", ("b",)),), (("drop", ("b",)),), (("put", "x", "a"), ("put", "x", "b")), ((),), (("put",),), (("put", "x", True),), (("put", True, "a"),),
        ]
        self.ask(forms.is_log, plain + dropping, wrong, AB)
        self.ask(forms.is_plain_log, plain, wrong + dropping, AB)

    def test_things_stay_as_they_are(self):
        functions = [
            forms.is_set, forms.is_call, forms.is_amounts, forms.is_deed, forms.is_stretch, forms.is_log, forms.is_plain_log,
        ]
        for thing in [{"b": 1, "a": 2}, [("put", "a")], (["put", "a"],), ("call", ["b"]), {"a": [1]}]:
            kept = copy.deepcopy(thing)
            for function in functions:
                function(AB, thing)
            forms.is_integer(thing), forms.is_name(thing), forms.is_house(thing)
            self.assertEqual(repr(thing), repr(kept))


def same(one, other):
    """Tell whether two values are equal, and True and False not taken for 1 and 0."""
    return one == other and repr(one) == repr(other)


if __name__ == "__main__":
    unittest.main()
