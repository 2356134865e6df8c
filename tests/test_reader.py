"""[15]: houses, stretches and logs read from texts."""

import random
import unittest

from calledbest.errors import NoText, Wrong
from calledbest.forms import is_house
from calledbest.reader import read_house, read_log, read_stretch
from calledbest.texts import show_house, show_log, show_stretch
from tests.helpers import (
    AB, GREATEST, ONE, CallCase, any_values, random_houses, random_log, random_stretch, small_houses,
)

WORDS = (("kinds", "call", "put", "drop"), (("call", "drop"), ("kinds", "put"), ("put", "drop")))


def loosened(chance, text):
    """Return the text with blanks, remarks and skipped lines that change nothing."""
    lines = []
    for line in text.split("\n"):
        for _ in range(chance.randint(0, 2)):
            lines.append(chance.choice(["", "   ", "# put a", "  #", "#", "# kinds z"]))
        words = (" " * chance.randint(1, 3)).join(line.split(" "))
        lines.append(chance.choice(["", " ", "   "]) + words + chance.choice(["", "  ", "#", " # call a", "# #"]))
    return "\n".join(lines)


class ReaderTest(CallCase):

    def bad_house(self, line, text):
        self.assert_raises(NoText, {"line": line}, read_house, text)

    def test_what_is_shown_is_read_back(self):
        chance = random.Random(15)
        for house in small_houses() + random_houses(15, 60) + [WORDS, GREATEST]:
            text = show_house(house)
            self.assertEqual(read_house(text), house)
            self.assertEqual(read_house(loosened(chance, text)), house)
            for length in (0, 1, 2, 9, 30):
                stretch = random_stretch(chance, house, length)
                self.assertEqual(read_stretch(house, show_stretch(stretch)), stretch)
                self.assertEqual(read_stretch(house, loosened(chance, show_stretch(stretch))), stretch)
                log = random_log(chance, house, length)
                self.assertEqual(read_log(house, show_log(log)), log)
                self.assertEqual(read_log(house, loosened(chance, show_log(log))), log)

    def test_calls_in_any_order(self):
        chance = random.Random(16)
        for house in random_houses(16, 40):
            first, *calls = show_house(house).split("\n")
            chance.shuffle(calls)
            self.assertEqual(read_house("\n".join([first] + calls)), house)

    def test_remarks_and_skipped_lines(self):
        self.assertEqual(read_house("\n # a house\n\n  kinds   a  b # two\n#\ncall b#\n  call a b  "), AB)
        self.assertEqual(read_stretch(AB, "#\n\nput a # put b\n   \ncall  a   b\n"), (("put", "a"), ("call", ("a", "b"))))
        self.assertEqual(read_log(AB, "put x a#y\n # put\ndrop x\n"), (("put", "x", "a"), ("drop", "x")))
        for text in ("", "\n", "#", "   \n # put a\n\n"):
            self.assertEqual(read_stretch(AB, text), ())
            self.assertEqual(read_log(AB, text), ())

    def test_the_line_kinds(self):
        self.bad_house(0, "kind a\ncall a")
        self.bad_house(0, "call a\nkinds a")
        self.bad_house(0, "kinds\ncall a")
        self.bad_house(0, "kinds a a\ncall a")
        self.bad_house(0, "kinds A\ncall A")
        self.bad_house(0, "kinds abcdefg\ncall abcdefg")
        self.bad_house(0, "kinds a b c d e f g\ncall a b c d e f g")
        self.bad_house(0, "kinds a1\ncall a1")
        self.bad_house(0, "kinds a, b\ncall a")
        self.bad_house(0, "Kinds a\ncall a")
        self.bad_house(0, "a b\ncall a")
        self.bad_house(0, "kinds# a\ncall a")
        self.bad_house(2, "\n# kinds a\nkindsa\nkinds a\ncall a")
        self.assertEqual(read_house("kinds a b c d e f\ncall a b c d e f")[0], tuple("abcdef"))
        self.assertEqual(read_house("kinds abcdef\ncall abcdef"), (("abcdef",), (("abcdef",),)))

    def test_the_lines_call(self):
        self.bad_house(1, "kinds a b\nkinds a b\ncall a b")
        self.bad_house(1, "kinds a b\ncall")
        self.bad_house(1, "kinds a b\ncalls a b")
        self.bad_house(1, "kinds a b\ncall b a")
        self.bad_house(1, "kinds a b\ncall a c")
        self.bad_house(1, "kinds a b\ncall a a")
        self.bad_house(1, "kinds a b\nput a")
        self.bad_house(3, "kinds a b\ncall a b\n\ncall a b")
        self.bad_house(4, "kinds a b\n#\ncall a b\ncall b\ncall   b # again\ncall c")
        self.bad_house(2, "kinds a b\ncall a b\ncall\ncall b a")

    def test_eight_calls_and_a_ninth(self):
        text = show_house(GREATEST)
        self.assertEqual(len(read_house(text)[1]), 8)
        self.bad_house(9, text + "\ncall b")
        self.bad_house(10, text + "\n\ncall b\ncall")
        self.bad_house(9, text + "\ncall c")

    def test_lines_that_lack(self):
        self.bad_house(1, "")
        self.bad_house(2, "\n")
        self.bad_house(3, "# kinds a\n\n   ")
        self.bad_house(1, "kinds a")
        self.bad_house(3, "kinds a\n\n")
        self.bad_house(2, "kinds a b\ncall a")
        self.bad_house(4, "kinds a b\ncall a\n#call b\n")
        self.bad_house(3, "kinds a b c\ncall a c\ncall a")
        self.bad_house(2, "kinds a b\ncall a\ncall c")

    def test_bad_lines_of_stretches(self):
        bad = [
            "put", "put c", "put a b", "put x a", "Put a", "puta", "call", "call a", "call b a", "call a b b", "call c", "drop a",
            "drop x", "kinds a b", "a", "put A", "call a,b", "put a, b", "call ab", "put a call b",
        ]
        for line in bad:
            self.assert_raises(NoText, {"line": 0}, read_stretch, AB, line)
            self.assert_raises(NoText, {"line": 2}, read_stretch, AB, "put a\n\n " + line + " # put a\nput c")

    def test_bad_lines_of_logs(self):
        bad = [
            "put", "put a", "put x", "put x c", "put X a", "put abcdefg a", "put x a b", "put x1 a", "call", "call a", "call b a",
            "call x a b", "drop", "drop X", "drop x y", "drop abcdefg", "drop 1", "kinds a b", "x", "Drop x", "put y a", "put (x) a",
        ]
        for line in bad:
            self.assert_raises(NoText, {"line": 2}, read_log, AB, "put y b\n\n" + line + "\nput c")
            if line != "put y a":
                self.assert_raises(NoText, {"line": 0}, read_log, AB, line)

    def test_names_are_put_once(self):
        self.assert_raises(NoText, {"line": 1}, read_log, AB, "put x a\nput x a")
        self.assert_raises(NoText, {"line": 2}, read_log, AB, "put x a\ndrop x\nput x b")
        told = read_log(AB, "drop x\nput x a\ndrop x\ndrop x")
        self.assertEqual(told, (("drop", "x"), ("put", "x", "a"), ("drop", "x"), ("drop", "x")))

    def test_words_as_names(self):
        self.assertEqual(read_house("kinds kinds call put drop\ncall put drop\ncall call drop\ncall kinds put"), WORDS)
        self.assertEqual(read_stretch(WORDS, "put put\ncall call drop"), (("put", "put"), ("call", ("call", "drop"))))
        log = (("put", "put", "put"), ("put", "call", "kinds"), ("call", ("kinds", "put")), ("drop", "drop"))
        self.assertEqual(read_log(WORDS, "put put put\nput call kinds\ncall kinds put\ndrop drop"), log)

    def test_texts_of_any_sort(self):
        signs = [chr(code) for code in range(32, 127)] + ["\n"]
        chance = random.Random(17)
        for _ in range(300):
            text = "".join(chance.choice(signs + [" ", "\n", "a", "#"] * 9) for _ in range(chance.randint(0, 30)))
            with self.assertRaises(NoText) as caught:
                read_house(text)
            self.assertTrue(0 <= caught.exception.line <= text.count("\n") + 1)

    def test_wrong_arguments_come_first(self):
        for value in any_values():
            if not isinstance(value, str):
                self.assert_raises(Wrong, {"place": 0}, read_house, value)
                self.assert_raises(Wrong, {"place": 1}, read_stretch, AB, value)
                self.assert_raises(Wrong, {"place": 1}, read_log, ONE, value)
            if not is_house(value):
                for text in ("", "bad", 1, value):
                    self.assert_raises(Wrong, {"place": 0}, read_stretch, value, text)
                    self.assert_raises(Wrong, {"place": 0}, read_log, value, text)
            if isinstance(value, str) and value != "kinds a\ncall a":
                self.assertRaises(NoText, read_house, value)


if __name__ == "__main__":
    unittest.main()
