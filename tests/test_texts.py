"""[14]: houses, stretches and logs as texts."""

import unittest

from calledbest.texts import show_house, show_log, show_stretch
from tests.helpers import AB, GREATEST, ONE, CallCase


class TextsTest(CallCase):

    def test_houses(self):
        self.assertEqual(show_house(ONE), "kinds a\ncall a")
        self.assertEqual(show_house(AB), "kinds a b\ncall a b\ncall b")
        self.assertEqual(show_house((("zz", "a"), (("a",), ("zz", "a")))), "kinds zz a\ncall a\ncall zz a")
        lines = show_house(GREATEST).split("\n")
        self.assertEqual(lines[0], "kinds f e d c b a")
        self.assertEqual(lines[1:], ["call " + " ".join(call) for call in GREATEST[1]])

    def test_stretches(self):
        self.assertEqual(show_stretch(()), "")
        self.assertEqual(show_stretch((("put", "a"),)), "put a")
        self.assertEqual(show_stretch((("call", ("a", "b")), ("put", "b"), ("call", ("b",)))), "call a b\nput b\ncall b")
        self.assertEqual(show_stretch((("put", "put"), ("call", ("call", "put")))), "put put\ncall call put")

    def test_logs(self):
        self.assertEqual(show_log(()), "")
        log = (("put", "x", "a"), ("drop", "y"), ("call", ("a", "b")), ("put", "call", "b"), ("drop", "x"))
        self.assertEqual(show_log(log), "put x a\ndrop y\ncall a b\nput call b\ndrop x")
        self.assertEqual(show_log((("call", ("b",)),)), "call b")


if __name__ == "__main__":
    unittest.main()
