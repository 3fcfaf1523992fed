"""Tests of formula_error: point 5 and the interface's section on formulas."""

import copy
import inspect
import itertools
import unittest

from maskedlist import formulas
from maskedlist.formulas import formula_error

PAIRED_WORDS = ("plus", "minus", "times", "and", "or")
SIZE = ("size", ())


def nested_not(depth, leaf="x"):
    for _ in range(depth):
        leaf = ("not", leaf)
    return leaf


def chain(leaves, left=False):
    """A formula with so many leaves, nested as deep as it can be, to the right or left."""
    formula = "x"
    for _ in range(leaves - 1):
        formula = ("plus", formula, "y") if left else ("plus", "y", formula)
    return formula


def balanced(depth, leaf="x"):
    if depth == 0:
        return leaf
    return ("times", balanced(depth - 1, leaf), balanced(depth - 1, leaf))


def expected_form(value, modulus):
    """The path of the first part that is not built as in point 5, or None."""
    if type(value) is int:
        return None if value in range(modulus) else ()
    if type(value) is str:
        return None if value and len(value) < 7 and set(value) <= set("xyzab") else ()
    if type(value) is not tuple or not value or type(value[0]) is not str:
        return ()
    if (value[0], len(value)) not in [("not", 2)] + [(word, 3) for word in PAIRED_WORDS]:
        return ()
    for position in range(1, len(value)):
        path = expected_form(value[position], modulus)
        if path is not None:
            return (position, *path)
    return None


class FormulaErrorTest(unittest.TestCase):
    def assert_formula(self, value, modulus=5):
        self.assertIsNone(formula_error(value, modulus))

    def assert_form(self, value, path, modulus=5):
        self.assertEqual(formula_error(value, modulus), ("form", path))

    def assert_size(self, value, modulus=5):
        self.assertEqual(formula_error(value, modulus), SIZE)

    def assert_bad_leaf(self, leaf, modulus=5):
        """A bad leaf is found wherever it stands."""
        self.assert_form(leaf, (), modulus)
        self.assert_form(("not", leaf), (1,), modulus)
        self.assert_form(("plus", leaf, "x"), (1,), modulus)
        self.assert_form(("or", "x", leaf), (2,), modulus)
        self.assert_form(("times", 0, ("minus", "x", ("not", leaf))), (2, 2, 1), modulus)


class Interface(FormulaErrorTest):
    def test_parameters(self):
        self.assertEqual(formula_error.__module__, "maskedlist.formulas")
        self.assertEqual(formulas.formula_error, formula_error)
        self.assertEqual(list(inspect.signature(formula_error).parameters), ["value", "modulus"])

    def test_example(self):
        self.assertEqual(formula_error(("plus", "x", ("not", 5)), 5), ("form", (2, 1)))

    def test_keyword_arguments(self):
        for value in ("x", 7, ("plus", "x", ("not", 7)), nested_not(13)):
            self.assertEqual(formula_error(modulus=5, value=value), formula_error(value, 5))

    def test_the_value_stays_the_same(self):
        values = [
            ["plus", "x", {"y": [1, 2]}],
            {"x": ["y"]},
            ("plus", ["x"], {"a": 1}),
            ("not", ("plus", 1, [])),
            (["not"], "x"),
            nested_not(13, 4),
        ]
        before = copy.deepcopy(values)
        for value in values:
            formula_error(value, 5)
        self.assertEqual(values, before)
        self.assertEqual(repr(values), repr(before))


class Leaves(FormulaErrorTest):
    def test_residues(self):
        for modulus in (2, 3, 4, 7, 999, 1000):
            for residue in {0, 1, modulus // 2, modulus - 1}:
                self.assert_formula(residue, modulus)
                self.assert_formula(("not", residue), modulus)

    def test_integers_that_are_not_residues(self):
        for modulus in (2, 3, 4, 7, 999, 1000):
            for number in (-1, -modulus, modulus, modulus + 1, 2 * modulus, 10 ** 60 - 1, 1 - 10 ** 60):
                with self.subTest(number=number, modulus=modulus):
                    self.assert_bad_leaf(number, modulus)

    def test_the_modulus_decides(self):
        self.assert_form(("plus", 1, 4), (2,), 4)
        self.assert_formula(("plus", 1, 4), 5)

    def test_variables(self):
        for name in ("x", "a", "z", "xy", "abc", "azaz", "hello", "abcdef", "zzzzzz"):
            with self.subTest(name):
                self.assert_formula(name)
                self.assert_formula(("and", name, name))

    def test_every_letter(self):
        for letter in "abcdefghijklmnopqrstuvwxyz":
            self.assert_formula(letter)
            self.assert_formula("x" + letter)

    def test_words_are_variables_too(self):
        for word in (*PAIRED_WORDS, "not", "input", "coin"):
            self.assert_formula(word)
            self.assert_formula(("plus", word, ("not", word)))

    def test_strings_of_wrong_length(self):
        for text in ("", "abcdefg", "xxxxxxx", "x" * 12, "x" * 10000):
            with self.subTest(len(text)):
                self.assert_bad_leaf(text)

    def test_strings_with_other_signs(self):
        texts = (
            "X", "xY", "Abc", "abC", "x1", "1", "0", "x_", "_", "_x", "x y", " ", " x", "x ",
            "x\n", "\n", "x\t", "-", "x-y", "x,y", "not(x)", "`", "{", "x{", "@", "\u00e4", "\u00df",
            "x\u00e9", "\u0430", "\u00aa", "\uff41", "\x00", "x\x00", "None", "True",
        )
        for text in texts:
            with self.subTest(text):
                self.assert_bad_leaf(text)

    def test_every_other_ascii_sign(self):
        for code in range(128):
            sign = chr(code)
            if not "a" <= sign <= "z":
                self.assert_form(sign, ())
                self.assert_form("x" + sign + "y", ())

    def test_values_of_other_kinds(self):
        values = (
            True, False, None, [], {}, (), [1], ["x"], {"x": 1}, {0: 1}, [("not", "x")],
            ["not", "x"], ["plus", "x", "y"], {"not": "x"}, {"plus": ("x", "y")}, [[]], {1: {}},
        )
        for value in values:
            with self.subTest(repr(value)):
                self.assert_bad_leaf(value)

    def test_booleans_are_no_residues_for_each_modulus(self):
        for modulus in (2, 3, 1000):
            self.assert_bad_leaf(True, modulus)
            self.assert_bad_leaf(False, modulus)


class Operations(FormulaErrorTest):
    def test_each_operator(self):
        for word in PAIRED_WORDS:
            for one, other in (("x", "y"), (0, 1), ("x", 4), (2, "y"), (("not", 1), (word, 1, "x"))):
                with self.subTest(word=word, one=one, other=other):
                    self.assert_formula((word, one, other))
        for part in ("x", 0, 4, ("not", "x"), ("or", "x", 2)):
            self.assert_formula(("not", part))

    def test_too_few_and_too_many_operands(self):
        for word in PAIRED_WORDS:
            for operands in ((), ("x",), ("x", "y", "z"), ("x", 1, 2, 3)):
                with self.subTest(word=word, operands=operands):
                    self.assert_bad_leaf((word, *operands))
        for operands in ((), ("x", "y"), ("x", "y", "z")):
            with self.subTest(word="not", operands=operands):
                self.assert_bad_leaf(("not", *operands))

    def test_unknown_words(self):
        words = (
            "", "x", "add", "Plus", "PLUS", "plus ", " plus", "pluss", "plu", "xor", "nand", "Not",
            "neg", "minus\n", "form", "size", "-", "+",
        )
        for word in words:
            with self.subTest(word):
                self.assert_bad_leaf((word, "x", "y"))
                self.assert_bad_leaf((word, "x"))
                self.assert_bad_leaf((word,))

    def test_first_item_that_is_not_a_string(self):
        firsts = (0, 1, 2, True, None, [], ["plus"], {}, {"plus": 1}, (), ("plus",), ("not", "x"))
        for first in firsts:
            with self.subTest(repr(first)):
                self.assert_bad_leaf((first,))
                self.assert_bad_leaf((first, "x"))
                self.assert_bad_leaf((first, "x", "y"))

    def test_empty_tuples(self):
        self.assert_form((), ())
        self.assert_form(("plus", (), ()), (1,))
        self.assert_form(("plus", "x", ()), (2,))

    def test_lists_in_place_of_tuples(self):
        self.assert_form(["not", "x"], ())
        self.assert_form(("plus", "x", ["not", "x"]), (2,))


class FirstPart(FormulaErrorTest):
    def test_outer_parts_before_their_operands(self):
        self.assert_form(("foo", 9, 9), ())
        self.assert_form(("plus", 9), ())
        self.assert_form(("plus", ("foo", 9, 9), 9), (1,))
        self.assert_form(("plus", "x", ("not", 9, 9)), (2,))

    def test_operands_from_left_to_right(self):
        self.assert_form(("plus", 9, 9), (1,))
        self.assert_form(("plus", 9, ("foo",)), (1,))
        self.assert_form(("plus", ("times", "x", 9), ("times", 9, "x")), (1, 2))

    def test_all_of_the_first_operand_before_the_second(self):
        self.assert_form(("plus", ("not", ("not", 9)), 9), (1, 1, 1))
        self.assert_form(("plus", ("not", ("not", 9)), ("foo",)), (1, 1, 1))
        self.assert_form(("plus", ("not", ("not", 4)), 9), (2,))

    def test_long_paths(self):
        formula = 9
        path = ()
        for position in (1, 2, 2, 1, 1, 2, 1, 2, 2, 2, 1):
            formula = ("minus", formula, "y") if position == 1 else ("minus", "y", formula)
            path = (position, *path)
        self.assert_form(formula, path)

    def test_results_are_tuples_of_words_and_positions(self):
        kind, path = formula_error(("plus", "x", ("not", 5)), 5)
        self.assertEqual((type(kind), type(path)), (str, tuple))
        self.assertEqual([type(position) for position in path], [int, int])

    def test_all_small_values(self):
        atoms = (0, 2, 3, "x", "ab", "X", "", True, None, (), ("not",))
        words = ("plus", "not", "or", "xor")
        parts = list(atoms)
        for word in words:
            parts.extend((word, atom) for atom in (1, 3, "x", None))
            parts.extend((word, "x", atom) for atom in (1, 3, "", "y"))
            parts.extend((word, 5, atom) for atom in (1, 3, ()))
        values = list(parts)
        for word in words:
            values.extend((word, part) for part in parts)
            values.extend((word, one, other) for one, other in itertools.product(parts, repeat=2))
        for value in values:
            path = expected_form(value, 3)
            expected = None if path is None else ("form", path)
            self.assertEqual(formula_error(value, 3), expected, repr(value))


class Limits(FormulaErrorTest):
    def test_leaves(self):
        for left in (True, False):
            for leaves in range(1, 9):
                self.assert_formula(chain(leaves, left))
            for leaves in (9, 10, 12):
                self.assert_size(chain(leaves, left))

    def test_integers_and_variables_are_leaves(self):
        for leaf in (1, "x"):
            self.assert_formula(balanced(3, leaf))
            self.assert_size(("plus", balanced(3, leaf), 0))
            self.assert_size(("plus", "y", balanced(3, leaf)))
        mixed = ("plus", balanced(2, 0), balanced(2, "x"))
        self.assert_formula(mixed)
        self.assert_size(("minus", mixed, "x"))

    def test_the_same_part_counts_at_each_occurrence(self):
        part = ("plus", ("plus", "x", "x"), "x")
        twice = ("and", part, part)
        self.assert_formula(("and", twice, ("or", "x", "x")))
        self.assert_size(("and", twice, part))

    def test_tuples(self):
        pairs = ("plus", ("not", "x"), ("not", "y"))
        four = ("plus", pairs, pairs)
        eight = ("plus", four, four)
        self.assert_formula(eight)
        self.assert_formula(("not", eight))
        self.assert_size(("not", ("not", eight)))

    def test_tuples_with_one_leaf_less(self):
        def two_branches(tuples):
            return ("plus", nested_not(tuples // 2, 3), nested_not((tuples - 1) // 2, 3))
        for tuples in range(3, 17):
            self.assert_formula(two_branches(tuples))
        for tuples in (17, 18, 20, 23):
            self.assert_size(two_branches(tuples))

    def test_nesting(self):
        for depth in range(13):
            self.assert_formula(nested_not(depth))
            self.assert_formula(nested_not(depth, 4))
        for depth in (13, 14, 15):
            self.assert_size(nested_not(depth))
            self.assert_size(nested_not(depth, 4))

    def test_nesting_in_either_operand(self):
        for word in PAIRED_WORDS:
            self.assert_formula((word, nested_not(11), "x"))
            self.assert_formula((word, "x", nested_not(11)))
            self.assert_size((word, nested_not(12), "x"))
            self.assert_size((word, "x", nested_not(12)))

    def test_all_limits_at_once(self):
        formula = ("or", balanced(2), ("or", balanced(1), ("or", "y", nested_not(7, "z"))))
        self.assert_formula(nested_not(2, formula))
        self.assert_size(nested_not(3, formula))

    def test_form_before_size(self):
        self.assert_form(nested_not(13, 9), (1,) * 13)
        self.assert_form(nested_not(15, None), (1,) * 15)
        self.assert_form(("plus", chain(9), 9), (2,))
        self.assert_form(("plus", chain(12), ("foo", "x")), (2,))
        self.assert_form(("plus", balanced(4), ("plus", nested_not(12), True)), (2, 2))
        self.assert_size(("plus", balanced(4), ("plus", nested_not(12), 1)))


class LargeValues(FormulaErrorTest):
    def test_fifteen_deep(self):
        self.assert_size(chain(16))
        self.assert_size(chain(16, True))
        as_lists = "x"
        as_dicts = "x"
        for _ in range(15):
            as_lists = [as_lists]
            as_dicts = {"x": as_dicts}
        self.assert_form(as_lists, ())
        self.assert_form(as_dicts, ())
        self.assert_form(nested_not(14, [1]), (1,) * 14)
        self.assert_form(nested_not(14, ()), (1,) * 14)

    def test_very_many_parts(self):
        self.assert_size(balanced(11))
        self.assert_form(("plus", balanced(11), "X"), (2,))
        self.assert_form(("plus", *["x"] * 9998), ())
        self.assert_form(("not", ("plus", *range(9997))), (1,))
        self.assert_form(tuple(range(9999)), ())
        self.assert_form(list(range(9999)), ())
        self.assert_form(("plus", "x", list(range(9990))), (2,))
        self.assert_form({k: k for k in range(4999)}, ())


if __name__ == "__main__":
    unittest.main()
