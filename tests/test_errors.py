"""Tests of maskedlist.errors: point 2 and the interface's section on errors."""

import unittest

from maskedlist import errors

# For each class: its name, its direct base, and arguments with the names that keep them.
CLASSES = (
    ("InvalidFormula", ValueError, {"reason": ("form", (2, 1))}),
    ("InvalidProgram", ValueError, {"position": -1}),
    ("WrongLength", ValueError, {"expected": 14}),
    ("DifferentAnswers", ValueError, {"listed": 1, "own": 2}),
    ("ParseError", ValueError, {"position": 7}),
    ("InvalidCommand", ValueError, {}),
    ("MissingVariable", KeyError, {"name": "x"}),
    ("UnknownParty", LookupError, {"party": 6}),
    ("UnknownCheckpoint", LookupError, {"number": 3}),
    ("MessageRefused", RuntimeError, {"party": 2}),
    ("IncompleteMessages", RuntimeError, {"parties": (0, 1)}),
    ("LimitExceeded", OverflowError, {"limit": 1024}),
)


class ErrorClasses(unittest.TestCase):
    def test_there_are_these_twelve_classes(self):
        defined = [
            name for name, value in vars(errors).items()
            if isinstance(value, type) and issubclass(value, BaseException)
        ]
        self.assertEqual(sorted(defined), sorted(name for name, _, _ in CLASSES))
        self.assertEqual(len(defined), 12)

    def test_each_class_is_defined_in_the_file(self):
        for name, _, _ in CLASSES:
            with self.subTest(name):
                self.assertEqual(getattr(errors, name).__module__, "maskedlist.errors")
                self.assertEqual(getattr(errors, name).__name__, name)

    def test_the_direct_base_is_the_named_one_alone(self):
        for name, base, _ in CLASSES:
            with self.subTest(name):
                self.assertEqual(getattr(errors, name).__bases__, (base,))

    def test_none_is_a_subclass_of_another_one(self):
        for name, _, _ in CLASSES:
            for other, _, _ in CLASSES:
                if name != other:
                    with self.subTest(name=name, other=other):
                        self.assertFalse(issubclass(getattr(errors, name), getattr(errors, other)))

    def test_arguments_by_position_are_kept(self):
        for name, _, arguments in CLASSES:
            with self.subTest(name):
                error = getattr(errors, name)(*arguments.values())
                self.assertEqual(vars(error), arguments)

    def test_arguments_by_keyword_are_kept(self):
        for name, _, arguments in CLASSES:
            with self.subTest(name):
                error = getattr(errors, name)(**arguments)
                self.assertEqual(vars(error), arguments)

    def test_keywords_in_another_order(self):
        error = errors.DifferentAnswers(own=2, listed=1)
        self.assertEqual((error.listed, error.own), (1, 2))

    def test_two_errors_keep_their_own_arguments(self):
        one = errors.MissingVariable("x")
        other = errors.MissingVariable("y")
        self.assertEqual((one.name, other.name), ("x", "y"))

    def test_each_class_is_raised_and_caught_by_its_base(self):
        for name, base, arguments in CLASSES:
            with self.subTest(name):
                with self.assertRaises(base) as caught:
                    raise getattr(errors, name)(*arguments.values())
                self.assertEqual(vars(caught.exception), arguments)


if __name__ == "__main__":
    unittest.main()
