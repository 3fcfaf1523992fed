"""Runs the examples of the interface, which stand in interface_examples.txt."""

import pathlib
import unittest

from maskedlist import errors

EXAMPLES = pathlib.Path(__file__).resolve().parent / "interface_examples.txt"


def read_examples():
    """Return the list of pairs of calls and the line behind them."""
    examples = []
    calls = []
    for line in EXAMPLES.read_text(encoding="ascii").splitlines():
        if line.startswith(">>> "):
            calls.append(line[4:])
        elif line != "" and not line.startswith("#"):
            examples.append((calls, line))
            calls = []
    return examples


def result_of(calls):
    """Return what the last call returns or raises, as the interface writes it."""
    names = {}
    for call in calls[:-1]:
        exec(call, names)
    try:
        return repr(eval(calls[-1], names))
    except (ValueError, LookupError, RuntimeError, OverflowError) as error:
        fields = ", ".join(f"{name}={value!r}" for name, value in vars(error).items())
        own = getattr(errors, type(error).__name__) is type(error)
        return f"raises {type(error).__name__}({fields})" if own else repr(error)


class InterfaceExamples(unittest.TestCase):
    def test_results_are_as_written(self):
        examples = read_examples()
        self.assertEqual(len(examples), 51)
        for calls, expected in examples:
            with self.subTest(calls=calls):
                self.assertEqual(result_of(calls), expected)


if __name__ == "__main__":
    unittest.main()
