"""The examples of the document, in the files of the folder examples."""

import doctest
import pathlib
import unittest


class ExamplesTest(unittest.TestCase):

    def test_examples(self):
        paths = sorted((pathlib.Path(__file__).parent / "examples").glob("*.txt"))
        self.assertNotEqual(paths, [])
        for path in paths:
            with self.subTest(path.name):
                failed, tried = doctest.testfile(str(path), module_relative=False)
                self.assertEqual(failed, 0)
                self.assertNotEqual(tried, 0)


if __name__ == "__main__":
    unittest.main()
