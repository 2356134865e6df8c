"""[16]: a store that is played row by row."""

import random
import unittest

from calledbest.errors import NoCall, NoKind, Used, Wrong
from calledbest.forms import is_house, is_log, is_name
from calledbest.store import Store
from tests import plain
from tests.helpers import AB, CROSSED, FORKED, GREATEST, ONE, CallCase, any_values, random_houses, random_log


def do(store, row):
    """Do a row of a log, and return what is told."""
    if row[0] == "put":
        return store.put(row[1], row[2])
    if row[0] == "drop":
        return store.drop(row[1])
    return store.take(row[1])


def state(store):
    """Return all that a store tells without changing."""
    return store.there(), store.amounts(), store.rows()


class StoreTest(CallCase):

    def test_it_is_empty_at_first(self):
        self.assertEqual(state(Store(AB)), ([], {"a": 0, "b": 0}, ()))
        self.assertEqual(state(Store(ONE)), ([], {"a": 0}, ()))
        self.assertEqual(Store(GREATEST).amounts(), dict.fromkeys("abcdef", 0))

    def test_by_hand(self):
        store = Store(FORKED)
        self.assertIsNone(store.take(("a",)))
        self.assertIsNone(store.put("x", "b"))
        self.assertIsNone(store.put("y", "a"))
        self.assertIsNone(store.put("z", "a"))
        self.assertEqual(store.there(), [("x", "b"), ("y", "a"), ("z", "a")])
        self.assertEqual(store.amounts(), {"a": 2, "b": 1})
        self.assertEqual(store.take(("a", "b")), "y")
        self.assert_truth(True, store.drop("z"))
        self.assert_truth(False, store.drop("z"))
        self.assert_truth(False, store.drop("never"))
        self.assertIsNone(store.take(("a",)))
        self.assertEqual(store.take(("a", "b")), "x")
        self.assertIsNone(store.take(("a", "b")))
        self.assertEqual(store.there(), [])
        self.assertEqual(store.rows(), (
            ("call", ("a",)), ("put", "x", "b"), ("put", "y", "a"), ("put", "z", "a"), ("call", ("a", "b")), ("drop", "z"),
            ("drop", "z"), ("drop", "never"), ("call", ("a",)), ("call", ("a", "b")), ("call", ("a", "b")),
        ))

    def test_of_one_kind_the_first_put_is_taken(self):
        store = Store(ONE)
        for name in ("z", "m", "a", "q"):
            store.put(name, "a")
        store.drop("m")
        self.assertEqual([store.take(("a",)) for _ in range(4)], ["z", "a", "q", None])

    def test_a_drop_ahead_of_its_put_does_nothing(self):
        store = Store(AB)
        self.assert_truth(False, store.drop("x"))
        store.put("x", "a")
        self.assertEqual(store.there(), [("x", "a")])
        self.assert_truth(True, store.drop("x"))

    def test_it_plays_as_the_document_says(self):
        chance = random.Random(20)
        for house in random_houses(20, 60) + [AB, CROSSED, ONE, GREATEST]:
            log = random_log(chance, house, 60)
            store = Store(house)
            for index, (row, (told, there)) in enumerate(zip(log, plain.played(log))):
                here = [name for name, kind in store.there()]
                expected = told if row[0] == "call" else None if row[0] == "put" else row[1] in here
                answer = do(store, row)
                self.assertEqual(answer, expected)
                self.assertIs(answer.__class__, expected.__class__)
                self.assertEqual(store.there(), there)
                amounts = {kind: [other for _, other in there].count(kind) for kind in sorted(house[0])}
                self.assertEqual(list(store.amounts().items()), list(amounts.items()))
                self.assertEqual(store.rows(), log[:index + 1])
            self.assertTrue(is_log(house, store.rows()))

    def test_what_is_told_may_be_changed(self):
        store = Store(AB)
        store.put("x", "a")
        store.there().append(("y", "b"))
        store.there().clear()
        store.amounts()["a"] = 5
        store.amounts().clear()
        self.assertEqual(state(store), ([("x", "a")], {"a": 1, "b": 0}, (("put", "x", "a"),)))
        self.assertIsNot(store.there(), store.there())
        self.assertIs(store.rows().__class__, tuple)
        self.assertIs(store.there().__class__, list)

    def test_twins_go_their_own_ways(self):
        store = Store(AB)
        store.put("x", "a")
        store.put("y", "b")
        store.take(("a", "b"))
        twin = store.twin()
        self.assertIs(twin.__class__, Store)
        self.assertEqual(state(twin), state(store))
        kept = state(store)
        twin.put("z", "a")
        twin.take(("b",))
        twin.drop("z")
        self.assertEqual(state(store), kept)
        self.assert_raises(Used, {"name": "x"}, twin.put, "x", "a")
        kept = state(twin)
        store.put("z", "b")
        store.take(("b",))
        self.assertEqual(state(twin), kept)
        self.assertEqual(store.take(("a", "b")), "z")

    def test_wrong_houses(self):
        for value in any_values():
            if not is_house(value):
                self.assert_raises(Wrong, {"place": 0}, Store, value)

    def test_wrong_names_come_first(self):
        store = Store(AB)
        store.put("x", "a")
        kept = state(store)
        for value in any_values():
            if not is_name(value):
                self.assert_raises(Wrong, {"place": 0}, store.put, value, "a")
                self.assert_raises(Wrong, {"place": 0}, store.put, value, value)
                self.assert_raises(Wrong, {"place": 0}, store.drop, value)
        self.assertEqual(state(store), kept)

    def test_no_kind_comes_ahead_of_used(self):
        store = Store(AB)
        store.put("x", "a")
        kept = state(store)
        for value in any_values():
            if value not in ("a", "b"):
                self.assert_raises(NoKind, {"kind": value}, store.put, "x", value)
                self.assert_raises(NoKind, {"kind": value}, store.put, "y", value)
        self.assertEqual(state(store), kept)
        # A name whose put was refused is not used.
        store.put("y", "b")

    def test_used_names(self):
        store = Store(AB)
        for name in ("there", "drop", "taken"):
            store.put(name, "b")
        store.drop("drop")
        store.drop("there")
        store.take(("b",))
        kept = state(store)
        for name in ("there", "drop", "taken"):
            self.assert_raises(Used, {"name": name}, store.put, name, "a")
            self.assert_raises(Used, {"name": name}, store.put, name, "b")
        self.assertEqual(state(store), kept)
        store.put("here", "b")
        self.assert_raises(Used, {"name": "here"}, store.put, "here", "b")

    def test_no_call(self):
        store = Store(AB)
        store.put("x", "a")
        kept = state(store)
        for value in [*any_values(), ("a",), ("b", "a"), ["b"], (), "b"]:
            if value not in AB[1]:
                self.assert_raises(NoCall, {"call": value}, store.take, value)
        self.assertEqual(state(store), kept)


if __name__ == "__main__":
    unittest.main()
