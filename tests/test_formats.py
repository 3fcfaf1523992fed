"""Tests of maskedlist.formats: point 20 and the interface's section on formats."""

import copy
import inspect
import itertools
import unittest

from maskedlist import formats
from maskedlist.errors import InvalidFormula, ParseError
from maskedlist.formats import (
    format_assignment, format_formula, format_residues, parse_assignment, parse_formula,
    parse_residues,
)

WORDS = {"plus": 2, "minus": 2, "times": 2, "not": 1, "and": 2, "or": 2}
MODULI = (2, 3, 9, 10, 11, 15, 99, 100, 101, 250, 997, 1000)
FORMULA_TEXTS = (
    ("0", 0), ("1", 1), ("x", "x"), ("abcdef", "abcdef"), ("zzzzzz", "zzzzzz"), ("plus", "plus"),
    ("not", "not"), ("plus(x,y)", ("plus", "x", "y")), ("minus(x,1)", ("minus", "x", 1)),
    ("times(0,x)", ("times", 0, "x")), ("not(x)", ("not", "x")), ("and(x,y)", ("and", "x", "y")),
    ("or(or,and)", ("or", "or", "and")), ("not(not)", ("not", "not")),
    ("times(x,plus(y,1))", ("times", "x", ("plus", "y", 1))),
    ("minus(times(plus(a,b),not(c)),or(1,and(d,not(not(e)))))",
     ("minus", ("times", ("plus", "a", "b"), ("not", "c")),
      ("or", 1, ("and", "d", ("not", ("not", "e")))))),
    ("not(minus(plus,times))", ("not", ("minus", "plus", "times"))),
)
SIGNS = tuple("0123456789abcnopstuyz(),=- ;+_.xAZ\n\t%") + ("\u00e4", "\u0661", "\u00b2", "\u017f")


def nested_not(depth, leaf):
    for _ in range(depth):
        leaf = ("not", leaf)
    return leaf


# A second reading of the rule for positions: all ways in which a text can go on are followed at
# the same time. A state is a tuple of what is still to come, the next thing first. What is still
# to come is a character, "E" for a formula, or the beginning of a number or a name.


class States:
    def __init__(self, modulus):
        self.residues = {str(residue) for residue in range(modulus)}
        self.beginnings = {text[:k] for text in self.residues for k in range(len(text) + 1)}

    def expanded(self, state):
        """The states that begin with a character, or with a number or name, or are empty."""
        if state and state[0] == "E":
            rest = state[1:]
            yield (("number", ""), *rest)
            yield (("name", ""), *rest)
            for word, count in WORDS.items():
                operands = ("E",) if count == 1 else ("E", ",", "E")
                yield (*word, "(", *operands, ")", *rest)
            return
        yield state
        # A number or a name may end here.
        if state and state[0][0] == "number" and state[0][1] in self.residues:
            yield from self.expanded(state[1:])
        if state and state[0][0] == "name" and state[0][1] != "":
            yield from self.expanded(state[1:])
        if state and state[0][0] == "later" and state[0][1] > state[0][2]:
            yield from self.expanded((("value", state[0][1]),))
        if state and state[0][0] == "value":
            yield ("=", ("number", ""), ("next", state[0][1]))
        if state and state[0][0] == "next":
            yield ()
            yield (" ", ("later", "", state[0][1]))
        if state and state[0] == "more":
            yield ()
            yield (" ", ("number", ""), "more")

    def stepped(self, state, sign):
        """The state after one more character, or None."""
        if not state:
            return None
        first, rest = state[0], state[1:]
        if first == sign:
            return self.alive(rest)
        if first[0] == "number" and first[1] + sign in self.beginnings:
            return (("number", first[1] + sign), *rest)
        if first[0] in ("name", "later") and "a" <= sign <= "z" and len(first[1]) < 6:
            return self.alive(((first[0], first[1] + sign, *first[2:]), *rest))
        return None

    def alive(self, state):
        """The state, or None if no name can go on as it should."""
        if state and state[0][0] == "later":
            _, begun, before = state[0]
            tails = ("", "z", "zz", "zzz", "zzzz", "zzzzz", "zzzzzz")[:7 - len(begun)]
            if not any(begun + tail > before for tail in tails):
                return None
        return state


def closed(states, start):
    """All states that the start stands for."""
    found = []
    waiting = [start]
    while waiting:
        state = waiting.pop()
        for other in states.expanded(state):
            if other not in found:
                found.append(other)
                if other != state:
                    waiting.append(other)
    return found


def expected_position(modulus, starts, text):
    """The position of the error, or None if the text is valid."""
    states = States(modulus)
    current = [state for start in starts for state in closed(states, start)]
    for position, sign in enumerate(text):
        stepped = [states.stepped(state, sign) for state in current]
        after = [state for state in stepped if state is not None]
        if not after:
            return position
        current = [found for state in after for found in closed(states, state)]
    return None if () in current else len(text)


FORMULA_START = (("E",),)
RESIDUES_START = (("-",), (("number", ""), "more"))
ASSIGNMENT_START = (("-",), (("later", "", ""),))


class FormatsTest(unittest.TestCase):
    def assert_same(self, value, expected):
        self.assertEqual((type(value), value), (type(expected), expected))

    def assert_position(self, position, parse, text, modulus):
        with self.assertRaises(ParseError) as caught:
            parse(text, modulus)
        self.assertEqual(vars(caught.exception), {"position": position})
        self.assertIs(type(caught.exception.position), int)

    def assert_as_expected(self, parse, write, starts, text, modulus):
        """Compare the position with the second reading, and the value with its text."""
        position = expected_position(modulus, starts, text)
        if position is None:
            self.assertEqual(write(parse(text, modulus)), text)
        else:
            self.assert_position(position, parse, text, modulus)

    def changed_texts(self, text):
        """The text cut off, changed in one character, with one more, and with one less."""
        for at in range(len(text) + 1):
            yield text[:at]
            yield text[:at] + text[at + 1:]
            for sign in SIGNS:
                yield text[:at] + sign + text[at + 1:]
                yield text[:at] + sign + text[at:]

    def assert_changed_as_expected(self, parse, write, starts, text, modulus):
        for changed in set(self.changed_texts(text)):
            with self.subTest(text=changed, modulus=modulus):
                self.assert_as_expected(parse, write, starts, changed, modulus)


class Interface(FormatsTest):
    def test_functions_and_parameters(self):
        expected = {
            "format_formula": ["formula"], "format_residues": ["residues"],
            "format_assignment": ["assignment"], "parse_formula": ["text", "modulus"],
            "parse_residues": ["text", "modulus"], "parse_assignment": ["text", "modulus"],
        }
        for name, parameters in expected.items():
            with self.subTest(name):
                function = getattr(formats, name)
                self.assertEqual(function.__module__, "maskedlist.formats")
                self.assertEqual(list(inspect.signature(function).parameters), parameters)

    def test_examples(self):
        formula = ("times", "x", ("plus", "y", 1))
        self.assert_same(format_formula(formula), "times(x,plus(y,1))")
        self.assert_same(format_residues((1, 0, 3)), "1 0 3")
        self.assert_same(format_assignment({"y": 0, "x": 1}), "x=1 y=0")
        self.assert_position(7, parse_formula, "plus(x,7)", 5)
        self.assert_same(parse_residues("1 0 3", 5), (1, 0, 3))
        self.assertEqual(repr(parse_assignment("x=1 y=0", 2)), "{'x': 1, 'y': 0}")

    def test_keyword_arguments(self):
        self.assertEqual(format_formula(formula=("not", "x")), "not(x)")
        self.assertEqual(format_residues(residues=(1, 2)), "1 2")
        self.assertEqual(format_assignment(assignment={"x": 3}), "x=3")
        self.assertEqual(parse_formula(modulus=5, text="not(x)"), ("not", "x"))
        self.assertEqual(parse_residues(modulus=5, text="1 2"), (1, 2))
        self.assertEqual(parse_assignment(modulus=5, text="x=3"), {"x": 3})

    def test_arguments_stay_the_same(self):
        assignment = {"y": 0, "x": 1}
        before = copy.deepcopy(list(assignment.items()))
        format_assignment(assignment)
        self.assertEqual(list(assignment.items()), before)

    def test_results_are_new(self):
        first = parse_assignment("x=1", 5)
        first["y"] = 2
        parse_assignment("-", 5)["z"] = 1
        self.assertEqual(parse_assignment("x=1", 5), {"x": 1})
        self.assertEqual(parse_assignment("-", 5), {})


class Formatting(FormatsTest):
    def test_formulas(self):
        for text, formula in FORMULA_TEXTS:
            self.assert_same(format_formula(formula), text)
        self.assert_same(format_formula(999), "999")

    def test_residues(self):
        self.assert_same(format_residues(()), "-")
        self.assert_same(format_residues((0,)), "0")
        self.assert_same(format_residues((999,)), "999")
        self.assert_same(format_residues((10, 0, 7, 100)), "10 0 7 100")
        self.assert_same(format_residues((1,) * 500), " ".join(["1"] * 500))

    def test_assignments(self):
        self.assert_same(format_assignment({}), "-")
        self.assert_same(format_assignment({"x": 0}), "x=0")
        self.assert_same(format_assignment({"b": 12, "ab": 3, "a": 999}), "a=999 ab=3 b=12")
        for order in itertools.permutations(("a", "aa", "b", "zzzzzz")):
            assignment = {name: len(name) for name in order}
            self.assert_same(format_assignment(assignment), "a=1 aa=2 b=1 zzzzzz=6")


class Inverse(FormatsTest):
    def test_formulas(self):
        for text, formula in FORMULA_TEXTS:
            for modulus in MODULI:
                self.assert_same(parse_formula(text, modulus), formula)
        for modulus in MODULI:
            for residue in range(modulus):
                self.assert_same(parse_formula(str(residue), modulus), residue)
                nested = ("plus", residue, ("not", modulus - 1 - residue))
                self.assert_same(parse_formula(format_formula(nested), modulus), nested)

    def test_formulas_of_the_largest_sizes(self):
        eight = "x"
        for at in range(7):
            eight = (("plus", "or")[at % 2], eight, "abcdefg"[at])
        for formula in (eight, nested_not(12, "x"), ("plus", nested_not(11, 0), nested_not(4, 1))):
            self.assert_same(parse_formula(format_formula(formula), 5), formula)

    def test_residues(self):
        self.assert_same(parse_residues("-", 5), ())
        for modulus in MODULI:
            for length in (1, 2, 3, 50):
                residues = tuple((7 * at * at + 3 * length) % modulus for at in range(length))
                self.assert_same(parse_residues(format_residues(residues), modulus), residues)
            for residue in range(modulus):
                self.assert_same(parse_residues(str(residue), modulus), (residue,))
                self.assert_same(parse_residues(f"{residue} {residue}", modulus), (residue,) * 2)

    def test_assignments(self):
        self.assert_same(parse_assignment("-", 5), {})
        names = ("a", "aa", "ab", "abcdef", "abcdeg", "b", "plus", "y", "yz", "z", "zzzzzz")
        for modulus in MODULI:
            for count in range(len(names) + 1):
                assignment = {
                    name: (at * at + 5 * count) % modulus for at, name in enumerate(names[:count])
                }
                text = format_assignment({name: assignment[name] for name in reversed(assignment)})
                found = parse_assignment(text, modulus)
                self.assert_same(found, assignment)
                self.assertEqual(list(found), list(names[:count]))

    def test_all_pairs_of_names(self):
        names = ("a", "b", "ab", "ba", "z", "zz", "zzzzzz", "azzzzz", "zzzzz", "zzzzzy", "baaaaa")
        for one, other in itertools.product(names, repeat=2):
            text = f"{one}=1 {other}=0"
            if one < other:
                self.assert_same(parse_assignment(text, 2), {one: 1, other: 0})
            else:
                self.assert_as_expected(
                    parse_assignment, format_assignment, ASSIGNMENT_START, text, 2
                )
                with self.assertRaises(ParseError):
                    parse_assignment(text, 2)


class WrittenOut(FormatsTest):
    """Positions that are told here one by one."""

    def test_formulas(self):
        for modulus, text, position in (
            (5, "", 0), (5, " ", 0), (5, " x", 0), (5, "x ", 1), (5, "-", 0), (5, "-1", 0),
            (5, "X", 0), (5, "xY", 1), (5, "5", 0), (5, "9", 0), (5, "10", 1), (5, "4x", 1),
            (5, "00", 1), (5, "01", 1), (5, "0x", 1), (5, "x1", 1), (5, "abcdefg", 6),
            (5, "abcdef1", 6), (5, "x(", 1), (5, "x(y)", 1), (5, "plus(", 5), (5, "plus(x", 6),
            (5, "plus(x,", 7), (5, "plus(x,y", 8), (5, "plus(x,y))", 9), (5, "plus(x,y) ", 9),
            (5, "plus(x)", 6), (5, "plus()", 5), (5, "plus(,x)", 5), (5, "plus(x,y,z)", 8),
            (5, "not(x,y)", 5), (5, "not(x", 5), (5, "not()", 4), (5, "plus (x,y)", 4),
            (5, "plus( x,y)", 5), (5, "plus(x, y)", 7), (5, "plus(x ,y)", 6), (5, "Plus(x,y)", 0),
            (5, "add(x,y)", 3), (5, "pluss(x,y)", 5), (5, "plus(x,7)", 7), (5, "plus(x,44)", 8),
            (5, "x,y", 1), (5, "(x)", 0), (5, ")", 0), (5, ",", 0), (5, "x)", 1), (5, "x\n", 1),
            (5, "times(plus(x,y),not(minus(1,5)))", 28), (5, "times(plus,plus(plus,plus)", 26),
            (5, "times(plus,plus(plus,plus", 25), (5, "\u0663", 0), (5, "x\u00e4", 1),
            (2, "2", 0), (2, "10", 1), (2, "1", None), (10, "9", None), (10, "10", 1),
            (11, "10", None), (11, "11", 1), (11, "100", 2), (100, "99", None), (100, "100", 2),
            (101, "100", None), (101, "101", 2), (101, "99", None), (101, "990", 2),
            (1000, "999", None), (1000, "1000", 3), (1000, "099", 1), (997, "996", None),
            (997, "997", 2), (997, "998", 2), (997, "99", None), (997, "9", None), (15, "15", 1),
            (15, "14", None), (15, "140", 2), (15, "20", 1),
        ):
            with self.subTest(modulus=modulus, text=text):
                if position is None:
                    self.assert_same(parse_formula(text, modulus), int(text))
                else:
                    self.assert_position(position, parse_formula, text, modulus)

    def test_residues(self):
        for modulus, text, position in (
            (5, "", 0), (5, " ", 0), (5, "--", 1), (5, "-1", 1), (5, "- ", 1), (5, " -", 0),
            (5, "1 ", 2), (5, " 1", 0), (5, "1  2", 2), (5, "1 2 ", 4), (5, "1 -", 2), (5, "1-", 1),
            (5, "5", 0), (5, "1 5", 2), (5, "10", 1), (5, "01", 1), (5, "1 00", 3), (5, "1,2", 1),
            (5, "x", 0), (5, "1 x", 2), (5, "1\n", 1), (5, "1\t2", 1), (5, "+1", 0),
            (1000, "999 1000", 7), (1000, "9999", 3), (100, "99 99 100", 8), (11, "10 11", 4),
            (5, "\u0661", 0), (5, "1\u00a02", 1),
        ):
            with self.subTest(modulus=modulus, text=text):
                self.assert_position(position, parse_residues, text, modulus)

    def test_assignments(self):
        for modulus, text, position in (
            (5, "", 0), (5, " ", 0), (5, "--", 1), (5, "-x", 1), (5, "- ", 1), (5, "x", 1),
            (5, "x=", 2), (5, "x=1 ", 4), (5, " x=1", 0), (5, "x=1  y=2", 4), (5, "x =1", 1),
            (5, "x= 1", 2), (5, "x=5", 2), (5, "x=10", 3), (5, "x=01", 3), (5, "x=1,y=2", 3),
            (5, "x=1 y", 5), (5, "x=1 y=", 6), (5, "1=x", 0), (5, "x==1", 2), (5, "X=1", 0),
            (5, "x1=1", 1), (5, "abcdefg=1", 6), (5, "x=y", 2), (5, "=1", 0), (5, "x=1 -", 4),
            # names that repeat
            (5, "x=1 x=1", 5), (5, "ab=1 ab=1", 7), (5, "abcdef=1 abcdef=2", 14),
            (5, "abcdez=1 abcdez=2", 13), (5, "abczzz=1 abczzz=2", 11), (5, "z=1 z=1", 5),
            (5, "zzzzzz=1 zzzzzz=1", 8), (5, "zzzzz=1 zzzzz=1", 13),
            # names that descend
            (5, "y=1 x=1", 4), (5, "b=1 a=1", 4), (5, "ab=1 a=1", 6), (5, "ab=1 aa=1", 6),
            (5, "abcdef=1 abcdee=1", 14), (5, "abcdef=1 abcd=1", 13), (5, "b=1 azzzzz=1", 4),
            (5, "zz=1 z=1", 6), (5, "zz=1 zy=1", 6), (5, "x=1 y=1 x=2", 8), (5, "aa=1 a", 6),
            (5, "abc=1 ab", 8), (5, "abc=1 ab ", 8),
            # a name after which no other can follow
            (5, "zzzzzz=1 ", 8), (5, "zzzzzz=1 a=1", 8), (5, "a=1 zzzzzz=1 ", 12),
            (5, "zzzzzz=10", 8), (5, "zzzzzz=1", None), (5, "zzzzz=1 zzzzzz=2", None),
            (5, "zzzzzy=1 zzzzzz=2", None), (5, "zzzzzy=1 zzzzzy=2", 14), (5, "zzzzz=1 ", 8),
            (5, "zzzzz=1 y", 8), (5, "zzzzz=1 zzzzz", 13), (5, "zzzzz=1 zzzzzz ", 14),
        ):
            with self.subTest(modulus=modulus, text=text):
                if position is None:
                    self.assertEqual(format_assignment(parse_assignment(text, modulus)), text)
                else:
                    self.assert_position(position, parse_assignment, text, modulus)


class SecondReading(FormatsTest):
    def test_formulas(self):
        for (text, _), modulus in itertools.product(FORMULA_TEXTS[7:15], (2, 11)):
            self.assert_changed_as_expected(
                parse_formula, format_formula, FORMULA_START, text, modulus
            )
        for text in ("plus(10,abcdef)", "minus", "notnot", "times(96,99)", "or(not(9),plus)"):
            for modulus in (100, 97, 10):
                self.assert_changed_as_expected(
                    parse_formula, format_formula, FORMULA_START, text, modulus
                )

    def test_residues_of_each_modulus(self):
        texts = [str(number) for number in range(12)] + ["00", "01", "012", "x", "", "-", "1-"]
        for modulus in MODULI:
            around = [modulus + difference for difference in (-2, -1, 0, 1, 9)]
            numbers = [str(number) for number in (*around, 10 * modulus, modulus // 10, 5 * modulus)]
            for text in (*texts, *numbers):
                for parse, write, starts, whole in (
                    (parse_residues, format_residues, RESIDUES_START, text),
                    (parse_residues, format_residues, RESIDUES_START, "1 " + text),
                    (parse_formula, format_formula, FORMULA_START, text),
                    (parse_formula, format_formula, FORMULA_START, f"plus({text},{text})"),
                    (parse_assignment, format_assignment, ASSIGNMENT_START, f"x={text}"),
                    (parse_assignment, format_assignment, ASSIGNMENT_START, f"x=1 y={text}"),
                ):
                    with self.subTest(text=whole, modulus=modulus):
                        self.assert_as_expected(parse, write, starts, whole, modulus)

    def test_residues(self):
        for text, modulus in (
            ("-", 2), ("1", 2), ("0", 5), ("1 0 1", 2), ("10 9 0 1", 11), ("999 0 10 100", 1000),
            ("4 4", 5), ("99 9 10", 100), ("13 0", 14),
        ):
            self.assert_changed_as_expected(
                parse_residues, format_residues, RESIDUES_START, text, modulus
            )

    def test_assignments(self):
        for text, modulus in (
            ("-", 2), ("x=1", 2), ("x=1 y=0", 2), ("a=10 ab=9 b=0", 11), ("abcdef=1 abcdeg=999", 1000),
            ("zzzzz=1 zzzzzz=4", 5), ("azz=1 b=0", 5), ("zy=1 zz=99", 100), ("abczzz=1 abd=3", 7),
            ("a=1 zzzzzz=0", 3), ("yzzzzz=1 z=1", 2), ("xy=3 xyz=3 xyzz=3", 4),
        ):
            self.assert_changed_as_expected(
                parse_assignment, format_assignment, ASSIGNMENT_START, text, modulus
            )

    def test_pairs_of_names(self):
        names = ("a", "az", "azzzzz", "b", "ba", "z", "zz", "zzzzz", "zzzzzz", "zzzzzy", "azzzzy")
        for one, other in itertools.product(names, repeat=2):
            text = f"{one}=1 {other}=0 c=1"
            for end in range(len(text) + 1):
                self.assert_as_expected(
                    parse_assignment, format_assignment, ASSIGNMENT_START, text[:end], 2
                )

    def test_all_short_texts(self):
        for length, text in (
            (length, "".join(signs)) for length in range(5)
            for signs in itertools.product("01z=- (", repeat=length)
        ):
            for parse, write, starts in (
                (parse_residues, format_residues, RESIDUES_START),
                (parse_formula, format_formula, FORMULA_START),
                (parse_assignment, format_assignment, ASSIGNMENT_START),
            ):
                with self.subTest(text=text):
                    self.assert_as_expected(parse, write, starts, text, 11)


class Sizes(FormatsTest):
    def assert_size(self, text, modulus=5):
        with self.assertRaises(InvalidFormula) as caught:
            parse_formula(text, modulus)
        self.assertEqual(vars(caught.exception), {"reason": ("size", ())})

    def test_too_large(self):
        nine = "x"
        for _ in range(8):
            nine = ("plus", nine, 1)
        seventeen = ("plus", nested_not(8, "x"), nested_not(8, "y"))
        for formula in (nine, seventeen, nested_not(13, "x"), nested_not(40, 0), nested_not(17, "a")):
            self.assert_size(format_formula(formula))
        self.assertEqual(parse_formula(format_formula(nine[1]), 5), nine[1])
        self.assertEqual(parse_formula(format_formula(nested_not(12, "x")), 5), nested_not(12, "x"))

    def test_errors_of_the_text_come_first(self):
        text = "not(" * 20 + "x" + ")" * 20
        self.assert_size(text)
        self.assert_position(len(text) - 1, parse_formula, text[:-1], 5)
        self.assert_position(len(text), parse_formula, text + ")", 5)
        self.assert_position(len(text), parse_formula, text + " ", 5)
        self.assert_position(80, parse_formula, text.replace("x", "7"), 5)
        many = "plus(" * 12 + "x" + ",1)" * 12
        self.assert_size(many)
        self.assert_position(len(many) - 2, parse_formula, many[:-2] + "5)", 5)

    def test_forty_open_parentheses(self):
        self.assert_size("not(" * 40 + "x" + ")" * 40)
        text = "not(" * 40
        self.assert_position(160, parse_formula, text, 5)
        self.assert_position(160, parse_formula, text + ")", 5)

    def test_long_texts(self):
        text = "plus(x," * 39 + "x" + ")" * 39
        self.assert_size(text)
        wide = "x"
        while len(wide) < 2500:
            wide = f"plus({wide},{wide})"
        self.assert_size(wide)
        self.assert_position(len(wide), parse_formula, wide + "+", 5)
        residues = (999,) * 1500
        self.assertEqual(parse_residues(format_residues(residues), 1000), residues)
        self.assert_position(6000, parse_residues, format_residues(residues) + " ", 1000)

    def test_somewhat_beyond_the_limits(self):
        self.assert_size("not(" * 60 + "x" + ")" * 60)
        self.assertEqual(parse_residues("4 " * 4000 + "4", 5), (4,) * 4001)


if __name__ == "__main__":
    unittest.main()
