"""The interface: names, arguments, and the file in which each is defined."""

import importlib
import inspect
import unittest

FUNCTIONS = {
    "forms": [
        "is_integer(thing)", "is_name(thing)", "is_house(thing)", "is_set(house, thing)", "is_call(house, thing)",
        "is_amounts(house, thing)", "is_deed(house, thing)", "is_stretch(house, thing)", "is_log(house, thing)",
        "is_plain_log(house, thing)",
    ],
    "houses": [
        "accepting(house, kind)", "tail_of(house, call, kind)", "reordered(house, kinds)", "renamed_house(house, names)",
        "part_of(house, calls)", "with_call(house, kinds)",
    ],
    "texts": ["show_house(house)", "show_stretch(stretch)", "show_log(log)"],
    "reader": ["read_house(text)", "read_stretch(house, text)", "read_log(house, text)"],
    "play": [
        "told_by(house, log)", "taken_by(house, log)", "amounts_at(house, log, moment)", "there_at(house, log, moment)",
        "served_at(house, log)",
    ],
}

METHODS = {
    ("store", "Store(house)"): [
        "put(self, name, kind)", "take(self, call)", "drop(self, name)", "there(self)", "amounts(self)", "rows(self)", "twin(self)",
    ],
}


class InterfaceTest(unittest.TestCase):

    def test_functions(self):
        for file, signatures in FUNCTIONS.items():
            module = importlib.import_module("calledbest." + file)
            for signature in signatures:
                function = getattr(module, signature.partition("(")[0])
                self.assertTrue(inspect.isfunction(function))
                self.assertEqual(function.__module__, "calledbest." + file)
                self.assertEqual(function.__name__ + str(inspect.signature(function)), signature)

    def test_classes(self):
        for (file, signature), methods in METHODS.items():
            module = importlib.import_module("calledbest." + file)
            made = getattr(module, signature.partition("(")[0])
            self.assertEqual(made.__module__, "calledbest." + file)
            self.assertEqual(made.__name__ + str(inspect.signature(made)), signature)
            for method in methods:
                function = vars(made)[method.partition("(")[0]]
                self.assertEqual(function.__name__ + str(inspect.signature(function)), method)


if __name__ == "__main__":
    unittest.main()
