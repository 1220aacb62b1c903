"""The examples of README.md say what happens."""

import doctest
import pathlib
import unittest


class Readme(unittest.TestCase):

    def test_examples(self):
        path = pathlib.Path(__file__).resolve().parent.parent / 'README.md'
        told = doctest.testfile(str(path), module_relative=False)
        self.assertEqual(told.failed, 0)
        self.assertGreater(told.attempted, 0)


if __name__ == '__main__':
    unittest.main()
