"""Runs the examples of README.md."""

import doctest
import pathlib
import unittest

README = pathlib.Path(__file__).resolve().parent.parent / "README.md"


class Examples(unittest.TestCase):
    def test_results_are_as_written(self):
        failed, attempted = doctest.testfile(str(README), module_relative=False)
        self.assertEqual(failed, 0)
        self.assertGreater(attempted, 0)


if __name__ == "__main__":
    unittest.main()
