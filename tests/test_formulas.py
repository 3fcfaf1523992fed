"""Tests of formula_variables and evaluate_formula: point 5 and the interface's section."""

import copy
import inspect
import itertools
import unittest

from maskedlist.errors import MissingVariable
from maskedlist.formulas import evaluate_formula, formula_variables

MODULI = (2, 3, 4, 5, 6, 7, 9, 10)
POLYNOMIALS = {
    "plus": lambda e, f: e + f,
    "minus": lambda e, f: e - f,
    "times": lambda e, f: e * f,
    "and": lambda e, f: e * f,
    "or": lambda e, f: 1 - (1 - e) * (1 - f),
}
LARGE = ("plus", ("times", "a", "b"), ("or", ("not", "c"), ("minus", "d", ("and", "e", "f"))))
LARGE_VALUES = {"a": 2, "b": 3, "c": 4, "d": 5, "e": 6, "f": 7}


def nested_not(depth, leaf):
    for _ in range(depth):
        leaf = ("not", leaf)
    return leaf


class Interface(unittest.TestCase):
    def test_functions_and_parameters(self):
        expected = (
            (formula_variables, ["formula"]),
            (evaluate_formula, ["formula", "modulus", "assignment"]),
        )
        for function, parameters in expected:
            self.assertEqual(function.__module__, "maskedlist.formulas")
            self.assertEqual(list(inspect.signature(function).parameters), parameters)

    def test_keyword_arguments(self):
        self.assertEqual(formula_variables(formula=LARGE), formula_variables(LARGE))
        self.assertEqual(
            evaluate_formula(assignment=LARGE_VALUES, modulus=11, formula=LARGE),
            evaluate_formula(LARGE, 11, LARGE_VALUES),
        )

    def test_arguments_stay_the_same(self):
        assignment = {"y": 3, "x": 2, "more": 1}
        formula = ("or", ("minus", "y", "x"), "y")
        before = copy.deepcopy((formula, list(assignment.items())))
        formula_variables(formula)
        evaluate_formula(formula, 5, assignment)
        with self.assertRaises(MissingVariable):
            evaluate_formula(("or", "x", "z"), 5, assignment)
        self.assertEqual((formula, list(assignment.items())), before)

    def test_the_assignment_is_not_kept(self):
        assignment = {"x": 2}
        self.assertEqual(evaluate_formula(("not", "x"), 5, assignment), 4)
        assignment["x"] = 3
        self.assertEqual(evaluate_formula(("not", "x"), 5, assignment), 3)
        del assignment["x"]
        with self.assertRaises(MissingVariable):
            evaluate_formula(("not", "x"), 5, assignment)


class Variables(unittest.TestCase):
    def test_example(self):
        self.assertEqual(formula_variables(("minus", "y", ("times", "x", "y"))), ("x", "y"))

    def test_leaves(self):
        self.assertEqual(formula_variables("abcdef"), ("abcdef",))
        self.assertEqual(formula_variables(0), ())
        self.assertEqual(formula_variables(7), ())

    def test_without_variables(self):
        self.assertEqual(formula_variables(("plus", 1, ("not", 2))), ())

    def test_ascending(self):
        for names in itertools.permutations(("b", "a", "ab", "aa")):
            formula = ("plus", ("plus", names[0], names[1]), ("plus", names[2], names[3]))
            self.assertEqual(formula_variables(formula), ("a", "aa", "ab", "b"))

    def test_without_duplicates(self):
        self.assertEqual(formula_variables(("and", ("or", "x", "x"), ("not", "x"))), ("x",))
        self.assertEqual(formula_variables(("and", ("or", "z", "x"), ("or", "x", "z"))), ("x", "z"))

    def test_each_operator_and_operand(self):
        for word in POLYNOMIALS:
            self.assertEqual(formula_variables((word, "y", "x")), ("x", "y"))
            self.assertEqual(formula_variables((word, 1, "x")), ("x",))
            self.assertEqual(formula_variables((word, "x", 1)), ("x",))
        self.assertEqual(formula_variables(("not", ("not", "x"))), ("x",))

    def test_variables_without_influence(self):
        self.assertEqual(formula_variables(("times", 0, "x")), ("x",))
        self.assertEqual(formula_variables(("minus", "x", "x")), ("x",))
        self.assertEqual(formula_variables(("plus", ("and", ("not", 1), "b"), "a")), ("a", "b"))

    def test_words_are_variables_at_leaves_only(self):
        self.assertEqual(formula_variables(("plus", "times", ("not", "or"))), ("or", "times"))

    def test_many_variables(self):
        self.assertEqual(formula_variables(LARGE), ("a", "b", "c", "d", "e", "f"))

    def test_somewhat_larger_formulas(self):
        self.assertEqual(formula_variables(nested_not(15, "x")), ("x",))
        self.assertEqual(
            formula_variables(("plus", LARGE, ("plus", ("or", "z", "y"), LARGE))),
            ("a", "b", "c", "d", "e", "f", "y", "z"),
        )

    def test_result_is_a_tuple(self):
        for formula in (1, "x", ("plus", "x", "y")):
            self.assertIs(type(formula_variables(formula)), tuple)


class Answers(unittest.TestCase):
    def assert_answer(self, formula, modulus, assignment, expected):
        answer = evaluate_formula(formula, modulus, assignment)
        self.assertEqual(answer, expected, (formula, modulus, assignment))
        self.assertIs(type(answer), int)

    def test_example(self):
        self.assert_answer(("or", "x", "y"), 5, {"x": 2, "y": 3}, 4)

    def test_leaves(self):
        for modulus in MODULI:
            for residue in range(modulus):
                self.assert_answer(residue, modulus, {}, residue)
                self.assert_answer("x", modulus, {"x": residue}, residue)

    def test_paired_operators_over_all_residues(self):
        for word, polynomial in POLYNOMIALS.items():
            for modulus in MODULI:
                for one, other in itertools.product(range(modulus), repeat=2):
                    expected = polynomial(one, other) % modulus
                    self.assert_answer((word, one, other), modulus, {}, expected)
                    self.assert_answer((word, "x", "y"), modulus, {"x": one, "y": other}, expected)

    def test_not_over_all_residues(self):
        for modulus in (*MODULI, 1000):
            for residue in range(modulus):
                self.assert_answer(("not", residue), modulus, {}, (1 - residue) % modulus)
                self.assert_answer(("not", "x"), modulus, {"x": residue}, (1 - residue) % modulus)

    def test_values_computed_by_hand(self):
        values = {"x": 4, "y": 3}
        self.assert_answer(("plus", "x", "y"), 6, values, 1)
        self.assert_answer(("minus", "y", "x"), 6, values, 5)
        self.assert_answer(("minus", "x", "y"), 6, values, 1)
        self.assert_answer(("times", "x", "y"), 6, values, 0)
        self.assert_answer(("and", "x", "y"), 7, values, 5)
        self.assert_answer(("or", "x", "y"), 6, values, 1)
        self.assert_answer(("or", "x", "y"), 7, values, 2)
        self.assert_answer(("not", "x"), 7, values, 4)

    def test_largest_modulus(self):
        values = {"x": 999, "y": 998}
        self.assert_answer(("plus", "x", "y"), 1000, values, 997)
        self.assert_answer(("minus", "y", "x"), 1000, values, 999)
        self.assert_answer(("times", "x", "y"), 1000, values, 2)
        self.assert_answer(("or", "x", "y"), 1000, values, 995)

    def test_nested(self):
        for modulus in (2, 6, 7, 11, 1000):
            values = {name: value % modulus for name, value in LARGE_VALUES.items()}
            a, b, c, d, e, f = values.values()
            expected = a * b + 1 - (1 - (1 - c)) * (1 - (d - e * f))
            self.assert_answer(LARGE, modulus, values, expected % modulus)

    def test_operands_in_their_order(self):
        formula = ("minus", ("minus", "x", "y"), ("minus", "y", ("minus", "x", 1)))
        self.assert_answer(formula, 10, {"x": 7, "y": 2}, 9)

    def test_repeated_variables(self):
        self.assert_answer(("times", "x", ("times", "x", "x")), 10, {"x": 3}, 7)
        self.assert_answer(("minus", "x", "x"), 10, {"x": 3}, 0)

    def test_deepest_and_largest_formulas(self):
        self.assert_answer(nested_not(11, "x"), 5, {"x": 3}, 3)
        self.assert_answer(nested_not(12, "x"), 5, {"x": 4}, 4)
        eight = "x"
        for _ in range(3):
            eight = ("plus", eight, eight)
        self.assert_answer(eight, 5, {"x": 3}, 4)

    def test_further_keys_are_ignored(self):
        values = {"a": 1, "x": 2, "xy": 4, "y": 3, "z": 0, "plus": 4}
        self.assert_answer(("plus", "x", "y"), 7, values, 5)
        self.assert_answer(("plus", 2, 3), 7, values, 5)

    def test_words_as_variables(self):
        self.assert_answer(("plus", "plus", "not"), 7, {"plus": 2, "not": 3}, 5)

    def test_somewhat_larger_formulas_and_numbers(self):
        self.assert_answer(nested_not(15, "x"), 5, {"x": 3}, 3)
        self.assert_answer(("plus", ("plus", LARGE, LARGE), 0), 2, LARGE_VALUES, 0)
        self.assert_answer(7, 5, {}, 2)
        self.assert_answer("x", 5, {"x": 5}, 0)
        self.assert_answer(("plus", "x", 8), 5, {"x": -1}, 2)
        self.assert_answer(("times", "x", 8), 1001, {"x": 1000}, 993)


class MissingVariables(unittest.TestCase):
    def assert_missing(self, formula, assignment, name):
        with self.assertRaises(MissingVariable) as caught:
            evaluate_formula(formula, 5, assignment)
        self.assertEqual(caught.exception.name, name)

    def test_example(self):
        self.assert_missing(("minus", "x", "x"), {}, "x")

    def test_it_is_a_key_error(self):
        with self.assertRaises(KeyError):
            evaluate_formula("x", 5, {})

    def test_one_variable(self):
        self.assert_missing("x", {}, "x")
        self.assert_missing("x", {"y": 1}, "x")
        self.assert_missing("x", {"xx": 1, "X": 2}, "x")

    def test_first_in_ascending_order(self):
        for names in itertools.permutations(("a", "aa", "b", "c")):
            formula = ("plus", ("times", names[0], names[1]), ("or", names[2], names[3]))
            self.assert_missing(formula, {}, "a")
            self.assert_missing(formula, {"a": 1}, "aa")
            self.assert_missing(formula, {"a": 1, "c": 1}, "aa")
            self.assert_missing(formula, {"a": 1, "aa": 0}, "b")
            self.assert_missing(formula, {"b": 1, "aa": 0, "a": 2}, "c")

    def test_variables_without_influence(self):
        self.assert_missing(("times", 0, "x"), {}, "x")
        self.assert_missing(("times", "x", 0), {}, "x")
        self.assert_missing(("and", ("minus", "y", "y"), "x"), {"y": 1}, "x")
        self.assert_missing(("or", 1, "x"), {}, "x")
        self.assert_missing(("plus", "y", ("times", 0, "x")), {}, "x")

    def test_zero_is_not_missing(self):
        self.assertEqual(evaluate_formula(("plus", "x", "y"), 5, {"x": 0, "y": 0}), 0)
        self.assert_missing(("plus", "x", "y"), {"x": 0}, "y")

    def test_each_operator(self):
        for word in POLYNOMIALS:
            self.assert_missing((word, "x", "y"), {"x": 1}, "y")
            self.assert_missing((word, "x", "y"), {"y": 1}, "x")
        self.assert_missing(("not", "x"), {"y": 1}, "x")


if __name__ == "__main__":
    unittest.main()
