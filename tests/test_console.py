"""Tests of maskedlist.console: point 21 and the interface's section on the console."""

import copy
import inspect
import itertools
import unittest

from maskedlist import console as console_module
from maskedlist.console import Console
from maskedlist.errors import (
    InvalidCommand, InvalidFormula, MissingVariable, ParseError, UnknownCheckpoint,
)
from maskedlist.formats import format_formula, format_residues
from maskedlist.sessions import Session, explain_transcript

SUM = ("plus", "x", "y")
NO_NAMES = ("", "F", "f1", "abcdefg", "f-g", "_", "1", "\u00e4", "fG", "f\n", "f.", "-")
NO_NUMBERS = (
    "", "-1", "+1", "01", "00", "0x1", "a", "1a", "1.0", "1_0", "1234567890", "0000000000", "-0",
    "\u0661", "\u00b2", "1\n", "-", "000000001",
)


def some_residues(count, modulus, seed):
    """Numbers that look different for each seed, the same in each run."""
    numbers = [(at + 5) ** 3 * 13 + 29 * seed * (at + 2) + seed ** 3 for at in range(count)]
    return tuple(number // 7 % modulus for number in numbers)


class ConsoleTest(unittest.TestCase):
    def assert_raises(self, error_class, fields, console, command):
        with self.assertRaises(error_class) as caught:
            console.execute(command)
        self.assertIs(type(caught.exception), error_class)
        self.assertEqual(vars(caught.exception), fields)

    def assert_invalid(self, console, *commands):
        for command in commands:
            with self.subTest(command=command):
                self.assert_raises(InvalidCommand, {}, console, command)

    def assert_answers(self, console, *pairs):
        for command, answer in pairs:
            with self.subTest(command=command):
                found = console.execute(command)
                self.assertEqual((type(found), found), (str, answer))

    def filled(self):
        """Entry 0 is refused, 1 and 3 are answered, 2 is refused; 1 coin is left."""
        console = Console(5, ({"x": 1, "y": 3},), (0, 1, 2, 3))
        self.assert_answers(
            console, ("define f plus(x,y)", "ok"), ("define g x", "ok"),
            ("request h", "refused name"), ("request f", "1 4 2 2"),
            ("request f", "refused coins"), ("request g", "1"), ("save", "0"), ("left", "1"),
        )
        return console

    def answers(self, console):
        """What the console answers where it changes nothing or takes no coins."""
        commands = ("left", "answer 1", "answer 3", "explain x=0 y=4; x=1", "request g", "left")
        return [console.execute(command) for command in commands]


class Interface(ConsoleTest):
    def test_class_and_method(self):
        self.assertEqual(Console.__module__, "maskedlist.console")
        self.assertIs(console_module.Console, Console)
        parameters = list(inspect.signature(Console).parameters)
        self.assertEqual(parameters, ["modulus", "assignments", "tape"])
        self.assertIn("execute", vars(Console))
        method = Console(2, ({},), ()).execute
        self.assertEqual(list(inspect.signature(method).parameters), ["command"])

    def test_example(self):
        console = Console(2, ({"x": 1, "y": 1},), (0, 1, 0))
        first = console.execute("define f plus(x,y)")
        second = console.execute("request f")
        self.assertEqual(
            (first, second, console.execute("answer 0"), console.execute("explain x=0 y=0")),
            ("ok", "1 0 0 1", "0", "1 0 1"),
        )

    def test_keyword_arguments(self):
        console = Console(tape=(0, 1, 0), assignments=({"x": 1, "y": 1},), modulus=2)
        self.assertEqual(console.execute(command="define f plus(x,y)"), "ok")
        self.assertEqual(console.execute(command="request f"), "1 0 0 1")

    def test_arguments_are_neither_changed_nor_kept(self):
        assignments = [{"y": 3, "x": 1}, {"x": 2}]
        tape = [0, 1, 2, 3]
        before = copy.deepcopy((assignments, tape))
        console = Console(5, assignments, tape)
        self.assert_answers(console, ("define f plus(x,y)", "ok"), ("request f", "1 4 2 2"))
        self.assertEqual((assignments, tape), before)
        assignments[1]["x"] = 4
        assignments.clear()
        tape.append(1)
        self.assert_answers(console, ("define f x", "ok"), ("request f", "2"), ("left", "1"))

    def test_several_consoles(self):
        one, other = self.filled(), Console(5, ({"x": 1, "y": 3},), (4,))
        self.assert_answers(other, ("request f", "refused name"), ("left", "1"), ("save", "0"))
        self.assert_answers(one, ("left", "1"), ("save", "1"), ("request f", "refused coins"))


class Commands(ConsoleTest):
    def test_define_and_request(self):
        console = Console(7, ({"x": 5, "abcdef": 6},), some_residues(30, 7, 1))
        session = Session(7, ({"x": 5, "abcdef": 6},), some_residues(30, 7, 1))
        for name, formula in (
            ("f", "x"), ("abcdef", 3), ("f", ("times", "x", "abcdef")), ("plus", ("not", "x")),
            ("define", ("minus", "x", "x")), ("x", ("or", "x", ("and", 1, 0))), ("g", "y"),
        ):
            session.define(name, formula)
            self.assert_answers(console, (f"define {name} {format_formula(formula)}", "ok"))
            entry = session.request(name)
            answer = format_residues(entry[2])
            if entry[0] == "refused":
                answer = "refused " + entry[2]
            self.assert_answers(console, (f"request {name}", answer))
            self.assert_answers(console, ("left", str(session.left())))
        self.assertEqual(
            [entry[0] for entry in session.transcript()],
            ["answered"] * 5 + ["refused"] * 2,
        )

    def test_a_list_without_residues(self):
        console = Console(5, ({"x": 2},), ())
        self.assert_answers(
            console, ("define f minus(x,x)", "ok"), ("request f", "-"), ("answer 0", "0"),
            ("explain x=4", "-"), ("explain x=0", "-"), ("left", "0"),
        )

    def test_the_reasons(self):
        console = Console(5, ({"x": 1},), (1, 2))
        self.assert_answers(
            console, ("request f", "refused name"), ("define f plus(x,y)", "ok"),
            ("request f", "refused value"), ("define f plus(x,1)", "ok"),
            ("request f", "refused coins"), ("left", "2"),
        )

    def test_answer(self):
        console = self.filled()
        self.assert_answers(console, ("answer 1", "4"), ("answer 3", "1"), ("answer 1", "4"))
        self.assert_answers(console, ("define f 0", "ok"), ("answer 1", "4"))
        for at in range(4, 12):
            self.assert_answers(console, ("request g", "1"), (f"answer {at}", "1"))

    def test_save_and_restore(self):
        console = self.filled()
        self.assert_answers(
            console, ("define g 4", "ok"), ("save", "1"), ("define h 2", "ok"), ("request h", "2"),
            ("restore 1", "ok"), ("request h", "refused name"), ("request g", "4"), ("save", "2"),
            ("restore 0", "ok"), ("request g", "1"), ("save", "1"), ("left", "1"), ("answer 1", "4"),
        )
        self.assert_raises(UnknownCheckpoint, {"number": 2}, console, "restore 2")

    def test_many_checkpoints(self):
        console = Console(5, ({},), ())
        self.assert_answers(console, *[("save", str(at)) for at in range(12)])
        self.assert_answers(console, ("restore 11", "ok"), ("restore 10", "ok"), ("save", "11"))

    def test_left(self):
        for count in (0, 1, 9, 10, 123):
            self.assert_answers(Console(5, ({},), (1,) * count), ("left", str(count)))

    def test_explain(self):
        console = self.filled()
        session = Session(5, ({"x": 1, "y": 3},), (0, 1, 2, 3))
        session.define("f", SUM)
        session.define("g", "x")
        for name in "hffg":
            session.request(name)
        for x, y, other in itertools.product(range(5), repeat=3):
            assignments = ({"x": x, "y": y}, {"x": other})
            found = explain_transcript(5, session.transcript(), assignments)
            if found[0] == "coins":
                expected = format_residues(found[1])
            else:
                expected = f"differs at {found[1]}: {found[2]}, not {found[3]}"
            self.assert_answers(console, (f"explain x={x} y={y}; x={other}", expected))

    def test_explain_written_out(self):
        self.assert_answers(
            self.filled(), ("explain x=1 y=3; x=1", "0 1 2"), ("explain x=0 y=4; x=1", "1 0 3"),
            ("explain x=0 y=0; x=1", "differs at 1: 4, not 0"),
            ("explain x=2 y=2; x=0", "differs at 3: 1, not 0"),
            ("explain x=0 y=0; x=0", "differs at 1: 4, not 0"),
            ("explain a=1 x=2 y=2 z=4; a=1 x=1", "4 2 1"),
        )

    def test_explain_alone(self):
        console = Console(5, ({},), (1, 2))
        self.assert_answers(console, ("explain", "-"), ("request f", "refused name"), ("explain", "-"))
        self.assert_answers(console, ("define f 3", "ok"), ("request f", "3"), ("explain -", "-"))
        self.assert_invalid(console, "explain")
        self.assert_answers(console, ("define f 4", "ok"), ("request f", "4"), ("explain -; -", "-"))


class InvalidCommands(ConsoleTest):
    def test_unknown_words(self):
        self.assert_invalid(
            self.filled(), "", " ", "help", "Define f x", "DEFINE f x", "defin f x", "defines f x",
            "requests f", "LEFT", "lefts", "saved", "answers 1", "restored 0", "explained", "x", "-",
            "0", "transcript", "define\tf\tx", "request\tf", "left\n", "save\n", "ok",
        )

    def test_missing_and_further_words(self):
        self.assert_invalid(
            self.filled(), "define", "define ", "define f", "request", "request ", "request f g",
            "request f f", "answer", "answer ", "answer 1 1", "answer 1 3", "save 0", "save f",
            "restore", "restore ", "restore 0 0", "left 1", "left 0", "explain",
        )

    def test_blanks(self):
        self.assert_invalid(
            self.filled(), " define f x", "define  f x", "define  x", " request f", "request  f",
            "request f ", " answer 1", "answer  1", "answer 1 ", " save", "save ", " restore 0",
            "restore  0", "restore 0 ", " left", "left ", "left  ", " explain x=1 y=3; x=1",
        )

    def test_names(self):
        console = self.filled()
        for name in NO_NAMES:
            self.assert_invalid(console, f"request {name}", f"define {name} x", f"define {name}")
        self.assert_answers(
            console, ("request abcdef", "refused name"), ("define abcdef x", "ok"),
            ("request abcdef", "1"), ("define z 1", "ok"),
        )

    def test_numbers(self):
        console = self.filled()
        for number in NO_NUMBERS:
            self.assert_invalid(console, f"answer {number}", f"restore {number}")
        self.assert_raises(UnknownCheckpoint, {"number": 123456789}, console, "restore 123456789")
        self.assert_raises(UnknownCheckpoint, {"number": 10}, console, "restore 10")
        self.assert_answers(console, ("restore 0", "ok"))

    def test_entries_that_have_no_answer(self):
        self.assert_invalid(
            self.filled(), "answer 0", "answer 2", "answer 4", "answer 10", "answer 999999999",
        )
        self.assert_invalid(Console(5, ({},), ()), "answer 0", "answer 1")

    def test_numbers_of_assignments(self):
        self.assert_invalid(
            self.filled(), "explain", "explain ", "explain x=1", "explain x=1 y=3",
            "explain x=1 y=3; x=1; x=1", "explain x=1 y=3;x=1", "explain x=1; x=1; ", "explain ; ; ",
            "explain x", "explain x y z",
        )
        console = Console(5, ({},), ())
        self.assert_invalid(console, "explain ", "explain -", "explain x=1", "explain  ")
        console.execute("request f")
        self.assert_invalid(console, "explain -", "explain ")

    def test_before_every_other_error(self):
        self.assert_invalid(
            self.filled(), "define F x(", "define F plus(x", "define  ", "explain x=; y=; z=",
            "explain X", "restore 01", "define abcdefg " + "not(" * 13 + "x" + ")" * 13,
        )


class TextErrors(ConsoleTest):
    def assert_position(self, console, position, command):
        self.assert_raises(ParseError, {"position": position}, console, command)

    def test_define(self):
        console = self.filled()
        for text, position in (
            ("", 0), (" ", 0), (" x", 0), ("x ", 1), ("x y", 1), ("plus(x, y)", 7), ("plus(x,y", 8),
            ("plus(x,y))", 9), ("5", 0), ("10", 1), ("abcdefg", 6), ("g(x)", 1), ("-", 0),
            ("plus(x,7)", 7), ("X", 0), ("  ", 0), ("x\n", 1), ("plus  (x,y)", 4),
        ):
            with self.subTest(text=text):
                self.assert_position(console, position, f"define f {text}")
                self.assert_position(console, position, f"define new {text}")
        self.assert_answers(console, ("request new", "refused name"), ("request f", "refused coins"))

    def test_explain(self):
        console = self.filled()
        for texts, position in (
            ("; ", 0), ("x=1 y=3; ", 0), ("; x=1", 0), ("x=1 y=3;  x=1", 0), ("x=1 y=3 ; x=1", 8),
            ("x=1  y=3; x=1", 4), (" x=1 y=3; x=1", 0), ("x=1 y=3; x=1 ", 4), ("x=1 y=3; x=1;", 3),
            ("x=1 y=3; x=5", 2), ("x=1 y=5; x=5", 6), ("y=1 x=3; x=", 4), ("x=1 y=3; x", 1),
            ("x; y", 1), ("-; ", 0), ("-; -1", 1), ("- ; -", 1), ("x=1 y=3; 1", 0),
            ("zzzzzz=1 ; x=1", 8), ("x=1 y=3; x=1 x=1", 5), ("x=01 y=3; x", 3),
        ):
            with self.subTest(texts=texts):
                self.assert_position(console, position, f"explain {texts}")

    def test_one_empty_text(self):
        console = Console(5, ({},), ())
        self.assert_answers(console, ("define f 3", "ok"), ("request f", "3"))
        self.assert_position(console, 0, "explain ")
        self.assert_position(console, 0, "explain  ")
        self.assert_position(console, 1, "explain -;")
        self.assert_invalid(console, "explain", "explain ; ", "explain -; ")

    def test_before_missing_variables(self):
        console = self.filled()
        self.assert_position(console, 3, "explain -; x=1;")
        self.assert_position(console, 0, "explain x=1; ")
        # The first answer differs, but the second text has an error.
        self.assert_position(console, 2, "explain x=1 y=1; x=")


class LaterErrors(ConsoleTest):
    def test_sizes(self):
        console = self.filled()
        deep = "not(" * 13 + "x" + ")" * 13
        nine = "plus(" * 8 + "x" + ",1)" * 8
        for text in (deep, nine):
            self.assert_raises(
                InvalidFormula, {"reason": ("size", ())}, console, f"define f {text}"
            )
        self.assert_raises(ParseError, {"position": len(deep)}, console, f"define f {deep})")
        self.assert_answers(console, ("define f " + deep[4:-1], "ok"))

    def test_unknown_checkpoints(self):
        console = self.filled()
        for number in (1, 2, 10, 999999999):
            self.assert_raises(UnknownCheckpoint, {"number": number}, console, f"restore {number}")
        empty = Console(5, ({},), ())
        self.assert_raises(UnknownCheckpoint, {"number": 0}, empty, "restore 0")

    def test_missing_variables(self):
        console = self.filled()
        for texts, name in (
            ("-; -", "x"), ("x=1; x=1", "y"), ("y=1; x=1", "x"), ("x=1 y=3; -", "x"),
            ("x=1 y=3; a=1 y=1", "x"), ("a=1 b=2; x=0", "x"),
        ):
            self.assert_raises(MissingVariable, {"name": name}, console, f"explain {texts}")
        # Another answer before the missing variable.
        self.assert_answers(console, ("explain x=1 y=1; -", "differs at 1: 4, not 2"))

    def test_after_an_error_every_answer_is_as_before(self):
        expected = self.answers(self.filled())
        commands = (
            "", "define f", "define F x", "define g plus(x", "define g ", "define g " + "not(" * 13
            + "x" + ")" * 13, "request F", "request f g", "answer 0", "answer 9", "restore 1",
            "restore 01", "save ", "left ", "explain", "explain x=1; ", "explain -; -", "explain x",
        )
        for command in commands:
            with self.subTest(command=command):
                console = self.filled()
                with self.assertRaises((ValueError, LookupError)):
                    console.execute(command)
                self.assertEqual(self.answers(console), expected)
                self.assert_answers(console, ("save", "1"), ("request f", "refused coins"))
        console = self.filled()
        for command in commands:
            with self.assertRaises((ValueError, LookupError)):
                console.execute(command)
        self.assertEqual(self.answers(console), expected)


if __name__ == "__main__":
    unittest.main()
