"""Tests of maskedlist.cells: point 11 and the interface's section on cells."""

import copy
import inspect
import itertools
import unittest

from maskedlist import cells
from maskedlist.cells import cells_of, evaluate_polynomial, polynomial_error
from maskedlist.errors import MissingVariable

X = ("input", "x")
Y = ("input", "y")
C0 = ("coin", 0)
C1 = ("coin", 1)
GOOD = (1, (X, C0))
# No polynomials, of each kind of any value.
NO_TUPLES = (
    [], [GOOD], None, 0, 7, -1, 10 ** 59, True, False, "", "x", "input", {}, {0: GOOD}, {"x": X},
)
# No terms modulo 5 with 3 coins.
BAD_TERMS = (
    # no pair
    (), (1,), (1, (), ()), (1, X, C0), (GOOD,), [1, ()], [1, (X,)], 1, "x", "ab", None, True,
    {1: ()}, {"a": 1, "b": ()},
    # coefficients
    (0, ()), (0, (X,)), (5, (X,)), (6, ()), (-1, (X,)), (10 ** 59, ()), (-10 ** 59, ()),
    (True, ()), (True, (X,)), (False, (X,)), ("1", (X,)), ("x", ()), (None, ()), ((1,), ()),
    ([1], (X,)), ({}, ()),
    # cells that are no tuple
    (1, [X]), (1, []), (1, None), (1, 0), (1, "x"), (1, True), (1, {}), (1, {X: C0}), (1, {"x": 1}),
    # too many cells
    (1, (X, X, X, X, X)), (1, (X, C0, C1, C0, Y)), (2, (C0,) * 6), (1, (X,) * 40),
    # cells that are no pair
    (1, (1,)), (1, (True,)), (1, ("x",)), (1, ("ab",)), (1, X), (1, C0), (1, (None,)),
    (1, ((),)), (1, (("input",),)), (1, (("coin",),)), (1, (("input", "x", "y"),)),
    (1, (("coin", 0, 1),)), (1, (["input", "x"],)), (1, (["coin", 0],)), (1, ({"input": "x"},)),
    (1, ({"input": 1, "x": 2},)),
    # other words
    (1, (("inputs", "x"),)), (1, (("Input", "x"),)), (1, (("COIN", 0),)), (1, (("coins", 0),)),
    (1, (("", "x"),)), (1, (("x", "input"),)), (1, ((0, "coin"),)), (1, ((None, 0),)),
    (1, ((1, 0),)), (1, ((True, "x"),)), (1, ((("input",), "x"),)), (1, ((["coin"], 0),)),
    (1, (({}, "x"),)), (1, (("input ", "x"),)),
    # inputs that are no variable
    (1, (("input", ""),)), (1, (("input", "X"),)), (1, (("input", "x1"),)),
    (1, (("input", "a b"),)), (1, (("input", "abcdefg"),)), (1, (("input", "\u00e4"),)),
    (1, (("input", 0),)), (1, (("input", 1),)), (1, (("input", None),)), (1, (("input", True),)),
    (1, (("input", ("x",)),)), (1, (("input", ["x"]),)), (1, (("input", {}),)),
    (1, (("input", "x\n"),)),
    # coins that are no integer below 3
    (1, (("coin", 3),)), (1, (("coin", 4),)), (1, (("coin", 10 ** 59),)), (1, (("coin", -1),)),
    (1, (("coin", -3),)), (1, (("coin", True),)), (1, (("coin", False),)), (1, (("coin", "0"),)),
    (1, (("coin", "x"),)), (1, (("coin", None),)), (1, (("coin", (0,)),)), (1, (("coin", [0]),)),
    (1, (("coin", {}),)),
    # an invalid cell at each place
    (1, (("coin", 3), X, X, X)), (1, (X, ("coin", 3), X, X)), (1, (X, X, ("coin", 3), X)),
    (1, (X, X, X, ("coin", 3))),
)
GOOD_TERMS = (
    (1, ()), (4, ()), (1, (X,)), (4, (("coin", 2),)), (2, (X, Y)), (3, (X, X, X, X)),
    (1, (C0, C0, C0, C0)), (4, (C1, X, C0, Y)), (1, (("input", "abcdef"),)),
    (1, (("input", "input"), ("input", "coin"))), (2, (("input", "plus"), C0)),
)


def some_number(modulus, *marks):
    """A residue that looks different for each marks, the same in each run."""
    number = 17
    for mark in marks:
        number = (number * 31 + mark * 7 + 3) % 10007
    return number // 5 % modulus


def expected_value(polynomial, modulus, assignment, coins):
    """The sum of the terms, by repeated addition of cells' values."""
    total = 0
    for coefficient, term_cells in polynomial:
        worth = coefficient
        for word, name in term_cells:
            worth *= {"input": assignment.get(name), "coin": dict(enumerate(coins)).get(name)}[word]
        total += worth
    return total % modulus


class CellsTest(unittest.TestCase):
    def assert_same(self, value, expected):
        self.assertEqual((type(value), value), (type(expected), expected))

    def assert_missing(self, name, polynomial, modulus, assignment, coins):
        with self.assertRaises(MissingVariable) as caught:
            evaluate_polynomial(polynomial, modulus, assignment, coins)
        self.assertEqual(caught.exception.name, name)


class Interface(CellsTest):
    def test_functions_and_parameters(self):
        expected = {
            "polynomial_error": ["value", "modulus", "coin_count"],
            "evaluate_polynomial": ["polynomial", "modulus", "assignment", "coins"],
            "cells_of": ["polynomial"],
        }
        for name, parameters in expected.items():
            with self.subTest(name):
                function = getattr(cells, name)
                self.assertEqual(function.__module__, "maskedlist.cells")
                self.assertEqual(list(inspect.signature(function).parameters), parameters)

    def test_keyword_arguments(self):
        self.assertEqual(polynomial_error(coin_count=2, value=((1, (("coin", 2),)),), modulus=3), 0)
        polynomial = ((2, (X, C0)), (1, ()))
        self.assertEqual(
            evaluate_polynomial(coins=(4,), assignment={"x": 3}, polynomial=polynomial, modulus=7),
            4,
        )
        self.assertEqual(cells_of(polynomial=polynomial), (X, C0))

    def test_arguments_stay_the_same(self):
        polynomial = ((2, (X, C0)), (1, (Y,)), (1, ()))
        assignment = {"y": 2, "x": 3, "more": 1}
        value = [[1, "x"], {"a": [()]}, polynomial]
        arguments = (polynomial, list(assignment.items()), value)
        before = copy.deepcopy(arguments)
        self.assertEqual(evaluate_polynomial(polynomial, 7, assignment, (4,)), 6)
        self.assertEqual(polynomial_error(value, 7, 1), -1)
        self.assertEqual(polynomial_error((polynomial[0], value), 7, 1), 1)
        cells_of(polynomial)
        self.assertEqual((polynomial, list(assignment.items()), value), before)
        del assignment["x"]
        self.assert_missing("x", polynomial, 7, assignment, (4,))


class PolynomialErrors(CellsTest):
    def test_example(self):
        value = ((1, (("input", "x"),)), (1, (("coin", 2),)))
        self.assert_same(polynomial_error(value, 3, 2), 1)

    def test_no_tuple(self):
        for value in NO_TUPLES:
            with self.subTest(value=value):
                self.assert_same(polynomial_error(value, 5, 3), -1)
                self.assert_same(polynomial_error(value, 2, 0), -1)

    def test_the_empty_polynomial(self):
        for modulus, coin_count in itertools.product((2, 5, 1000), (0, 1, 9)):
            self.assertIsNone(polynomial_error((), modulus, coin_count))

    def test_valid_terms(self):
        for term in GOOD_TERMS:
            with self.subTest(term=term):
                self.assertIsNone(polynomial_error((term,), 5, 3))
        self.assertIsNone(polynomial_error(GOOD_TERMS, 5, 3))
        self.assertIsNone(polynomial_error(GOOD_TERMS + GOOD_TERMS, 5, 3))
        self.assertIsNone(polynomial_error(((1, (X,)),) * 3, 5, 0))

    def test_invalid_terms(self):
        for term in BAD_TERMS:
            with self.subTest(term=term):
                self.assert_same(polynomial_error((term,), 5, 3), 0)

    def test_the_first_invalid_term(self):
        for at, term in enumerate(BAD_TERMS):
            before = GOOD_TERMS[: at % 7]
            other = BAD_TERMS[(5 * at + 2) % len(BAD_TERMS)]
            with self.subTest(term=term):
                value = (*before, term, *GOOD_TERMS[:2], other)
                self.assert_same(polynomial_error(value, 5, 3), len(before))
                self.assert_same(polynomial_error((term, other), 5, 3), 0)
        self.assert_same(polynomial_error((*GOOD_TERMS, GOOD), 5, 2), 3)

    def test_coefficients_for_each_modulus(self):
        for modulus in (2, 3, 10, 1000):
            for coefficient in (1, modulus - 1):
                self.assertIsNone(polynomial_error(((coefficient, (X,)),), modulus, 0))
            for coefficient in (0, modulus, modulus + 1, -1, 1 - modulus):
                value = ((1, ()), (coefficient, (X,)))
                self.assert_same(polynomial_error(value, modulus, 0), 1)

    def test_number_of_cells(self):
        for count in range(9):
            expected = None if count <= 4 else 0
            for cell in (X, C0):
                self.assertEqual(polynomial_error(((1, (cell,) * count),), 5, 1), expected)

    def test_coins_below_the_count(self):
        for coin_count in range(5):
            for coin in range(7):
                expected = None if coin < coin_count else 0
                value = ((1, (("coin", coin),)),)
                self.assertEqual(polynomial_error(value, 3, coin_count), expected)
        self.assertIsNone(polynomial_error(((1, (("coin", 999),)),), 3, 1000))
        self.assertIsNone(polynomial_error(((1, (X,)), (2, ())), 3, 0))

    def test_a_deep_value(self):
        value = ()
        for _ in range(14):
            value = (1, (value,))
        self.assert_same(polynomial_error(value, 5, 3), 0)

    def test_many_terms(self):
        self.assertIsNone(polynomial_error((GOOD,) * 500, 5, 3))
        self.assert_same(polynomial_error((GOOD,) * 500 + ((0, ()),), 5, 3), 500)


class Evaluation(CellsTest):
    def test_example(self):
        polynomial = ((2, (("input", "x"), ("coin", 0))), (1, ()))
        self.assert_same(evaluate_polynomial(polynomial, 5, {"x": 3}, (4,)), 0)

    def test_without_cells(self):
        for modulus in (2, 3, 6, 1000):
            self.assert_same(evaluate_polynomial((), modulus, {}, ()), 0)
            self.assert_same(evaluate_polynomial((), modulus, {"x": 1}, (1, 1)), 0)
            self.assert_same(evaluate_polynomial(((1, ()),), modulus, {}, ()), 1)
            self.assert_same(
                evaluate_polynomial(((modulus - 1, ()), (1, ())), modulus, {}, ()), 0
            )

    def test_each_kind_of_cell(self):
        for modulus in (2, 3, 6, 1000):
            for x in {0, 1, modulus - 1}:
                self.assert_same(evaluate_polynomial(((1, (X,)),), modulus, {"x": x}, ()), x)
                for coins in ((x, 1), (0, x)):
                    for k in range(2):
                        value = evaluate_polynomial(((1, (("coin", k),)),), modulus, {}, coins)
                        self.assert_same(value, coins[k])

    def test_repeated_cells_and_terms(self):
        for x, c in itertools.product(range(6), repeat=2):
            term = (5, (X, C0, X, C0))
            expected = 5 * x ** 2 * c ** 2
            self.assert_same(evaluate_polynomial((term,), 6, {"x": x}, (c,)), expected % 6)
            value = evaluate_polynomial((term, (1, (X,)), term), 6, {"x": x}, (c,))
            self.assert_same(value, (2 * expected + x) % 6)
            self.assertEqual(evaluate_polynomial(((1, (X,)),) * 6, 6, {"x": x}, ()), 0)

    def test_many_polynomials(self):
        names = ("x", "y", "abcdef")
        pool = [("input", name) for name in names] + [("coin", k) for k in range(4)]
        for modulus, seed in itertools.product((2, 3, 4, 6, 13, 997, 1000), range(40)):
            assignment = {name: some_number(modulus, seed, len(name), ord(name[0])) for name in names}
            coins = tuple(some_number(modulus, seed, k, 5) for k in range(4))
            polynomial = tuple(
                (
                    1 + some_number(modulus - 1, seed, at),
                    tuple(
                        pool[some_number(len(pool), seed, at, place)]
                        for place in range(some_number(5, seed, at, 77))
                    ),
                )
                for at in range(seed % 13)
            )
            self.assertIsNone(polynomial_error(polynomial, modulus, 4))
            value = evaluate_polynomial(polynomial, modulus, assignment, coins)
            self.assert_same(value, expected_value(polynomial, modulus, assignment, coins))

    def test_further_keys_and_coins(self):
        assignment = {"a": 4, "x": 3, "plus": 1}
        self.assertEqual(evaluate_polynomial(((2, (X, C0)),), 7, assignment, (2, 5, 6)), 5)

    def test_the_first_missing_variable(self):
        polynomial = ((1, (("input", "z"), C0)), (1, (("input", "b"), Y)), (2, (("input", "ab"),)))
        given = {"z": 1, "b": 1, "y": 1, "ab": 1}
        for count in range(4):
            for kept in itertools.combinations(given, count):
                lacking = sorted(name for name in given if name not in kept)
                assignment = {name: 1 for name in (*kept, "more")}
                self.assert_missing(lacking[0], polynomial, 5, assignment, (0,))
                self.assert_missing(lacking[0], polynomial, 5, assignment, (3,))
        self.assertEqual(evaluate_polynomial(polynomial, 5, given, (3,)), 1)

    def test_missing_where_a_coin_is_0(self):
        self.assert_missing("x", ((1, (C0, X)),), 5, {}, (0,))
        self.assert_missing("x", ((1, (X, C0)),), 5, {"y": 2}, (0,))
        self.assert_missing("y", ((1, (X, Y)),), 5, {"x": 0}, ())

    def test_missing_is_a_key_error(self):
        with self.assertRaises(KeyError):
            evaluate_polynomial(((1, (X,)),), 5, {"X": 1}, ())

    def test_somewhat_beyond_the_limits(self):
        polynomial = ((7, (X,) * 6), (-1, (C0,)))
        self.assertEqual(evaluate_polynomial(polynomial, 5, {"x": 7}, (-2,)), (7 * 2 ** 6 + 2) % 5)


class CellsOf(CellsTest):
    def test_example(self):
        polynomial = ((1, (("coin", 1), ("input", "x"))), (2, (("coin", 1),)))
        self.assert_same(cells_of(polynomial), (("coin", 1), ("input", "x")))

    def test_no_cells(self):
        self.assert_same(cells_of(()), ())
        self.assert_same(cells_of(((1, ()), (2, ()))), ())

    def test_the_order_of_the_first_occurrences(self):
        for order in itertools.permutations((X, Y, C0, C1)):
            self.assertEqual(cells_of(((1, order),)), order)
            self.assertEqual(cells_of(((1, order[:1]), (2, ()), (1, order[1:]), (1, order))), order)
            self.assertEqual(cells_of(tuple((1, (cell,)) for cell in order + order[::-1])), order)

    def test_no_cell_twice(self):
        self.assertEqual(cells_of(((1, (X, X, C0, X)), (1, (C0, Y)), (1, (Y, X)))), (X, C0, Y))
        self.assertEqual(cells_of(((1, (C0,)),) * 5), (C0,))

    def test_cells_of_the_same_name_and_other_words(self):
        names = (("input", "coin"), ("coin", 0), ("input", "input"), ("coin", 1))
        self.assertEqual(cells_of(((1, names),)), names)


if __name__ == "__main__":
    unittest.main()
