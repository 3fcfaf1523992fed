"""Tests of maskedlist.encoding: points 3 and 12 to 14 and the interface's section on it."""

import copy
import inspect
import itertools
import unittest

from maskedlist import encoding as encoding_module
from maskedlist.cells import cells_of, evaluate_polynomial, polynomial_error
from maskedlist.encoding import Encoding
from maskedlist.errors import DifferentAnswers, InvalidFormula, MissingVariable, WrongLength
from maskedlist.formulas import evaluate_formula, formula_error, formula_variables
from maskedlist.programs import compile_formula

SUM = ("plus", "x", "y")
PRODUCT = ("times", "x", "y")
EIGHT = ("times", ("times", ("plus", "a", "b"), ("or", "c", "d")), ("and", ("not", "e"), "f"))
FORMULAS = (
    0, 1, "x", SUM, PRODUCT, ("minus", "x", "y"), ("and", "x", "y"), ("or", "x", "y"),
    ("not", "x"), ("not", 1), ("not", 0), ("plus", "x", 1), ("minus", 1, "x"), ("times", "x", 0),
    ("times", 0, "x"), ("times", 0, 0), ("times", 1, 1), ("minus", "x", "x"),
    ("plus", ("minus", "x", "x"), ("minus", "y", "y")),
    ("times", ("minus", "x", "x"), "y"), ("plus", "y", ("plus", "x", ("plus", "a", 1))),
    ("times", SUM, ("minus", 1, "y")), ("times", "x", ("times", "x", "x")),
    ("or", ("or", "x", "y"), "x"), ("plus", PRODUCT, ("times", "y", 1)),
    ("minus", PRODUCT, ("not", ("and", "x", "y"))), EIGHT,
    ("times", "a", ("times", "b", ("times", "c", ("times", "d", ("times", "e", ("times", "f",
     ("times", "g", "h"))))))),
    ("plus", PRODUCT, ("plus", ("times", "a", "b"), ("minus", ("times", "c", "x"), ("or", 1, 0)))),
)
WITHOUT_PIECES = (
    0, ("minus", "x", "x"), ("plus", ("minus", "y", "x"), ("minus", "x", "y")), ("minus", 1, 1)
)
MODULI = (2, 3, 4, 10, 997, 1000)
# Small enough for all coin vectors and all lists: formula and modulus.
SMALL = (
    ("x", 2), ("x", 10), (1, 4), (0, 3), (("minus", "x", "x"), 3), (SUM, 2), (SUM, 4), (SUM, 6),
    (("plus", "y", ("plus", "x", 1)), 2), (("minus", ("plus", "y", 1), "x"), 3),
    (("times", 0, 0), 2), (("times", 0, 0), 6), (("times", "x", 0), 2), (("times", 0, "y"), 3),
    (("times", 1, "y"), 2), (PRODUCT, 2), (("times", 0, ("times", 0, 0)), 2),
)


def some_residues(count, modulus, seed):
    """Numbers that look different for each seed, the same in each run."""
    numbers = [(at + 5) ** 3 * 13 + 29 * seed * (at + 2) + seed ** 3 for at in range(count)]
    return tuple(number // 7 % modulus for number in numbers)


def some_assignment(formula, modulus, seed):
    names = formula_variables(formula)
    return dict(zip(names, some_residues(len(names), modulus, seed + 50), strict=True))


def all_assignments(formula, modulus):
    names = formula_variables(formula)
    for point in itertools.product(range(modulus), repeat=len(names)):
        yield dict(zip(names, point, strict=True))


# A second reading of points 12 and 13: R, M and U are matrices of lists of terms, multiplied out;
# coins are named by what they are for and get their numbers at the end.


def symbols(program):
    """The matrices R, M and U, each entry a list of terms."""
    size = program.nodes - 1
    one = (1, ())
    left = [[[] for _ in range(size)] for _ in range(size)]
    matrix = [[[] for _ in range(size)] for _ in range(size)]
    right = [[[] for _ in range(size)] for _ in range(size)]
    for i in range(size):
        left[i][i] = [one]
        right[i][i] = [one]
        for j in range(i + 1, size):
            left[i][j] = [(1, (("R", i, j),))]
        if i < size - 1:
            right[i][size - 1] = [(1, (("u", i),))]
        if i > 0:
            matrix[i][i - 1] = [(program.modulus - 1, ())]
    for start, end, (constant, pairs) in program.edges:
        terms = [(constant, ())] + [(factor, (("input", name),)) for name, factor in pairs]
        matrix[start][end - 1] = [term for term in terms if term[0] != 0]
    return left, matrix, right


def expected_entries(program):
    """The terms of each entry (i, j), by (i, j) in their order."""
    left, matrix, right = symbols(program)
    size = program.nodes - 1
    entries = {}
    for i, j in itertools.combinations_with_replacement(range(size), 2):
        entries[i, j] = [
            (first[0] * second[0] * third[0] % program.modulus, first[1] + second[1] + third[1])
            for a in range(size)
            for b in range(size)
            for first in left[i][a]
            for second in matrix[a][b]
            for third in right[b][j]
        ]
    return entries


def expected_entry_pieces(entry, terms, modulus):
    count = len(terms)
    if count < 2:
        return [[term] for term in terms]
    r = {i: ("r", entry, i) for i in range(1, count + 1)}
    s = {i: ("s", entry, i) for i in range(1, count)}
    minus = modulus - 1
    pieces = [[term, (1, (r[i],))] for i, term in enumerate(terms, 1)]
    pieces.append([(minus, (r[1],)), (1, (s[1],))])
    for i in range(2, count):
        pieces.append([(minus, (s[i - 1],)), (minus, (r[i],)), (1, (s[i],))])
    pieces.append([(minus, (s[count - 1],)), (minus, (r[count],))])
    return pieces


def expected_coins(program):
    """The names of the coins in their order."""
    size = program.nodes - 1
    names = [("R", i, j) for i, j in itertools.combinations(range(size), 2)]
    names.extend(("u", b) for b in range(size - 1))
    for entry, terms in expected_entries(program).items():
        if len(terms) >= 2:
            names.extend(("r", entry, i) for i in range(1, len(terms) + 1))
            names.extend(("s", entry, i) for i in range(1, len(terms)))
    return names


def expected_polynomials(program):
    numbers = {name: ("coin", k) for k, name in enumerate(expected_coins(program))}
    return tuple(
        tuple(
            (factor, tuple(numbers.get(cell, cell) for cell in term_cells))
            for factor, term_cells in piece
        )
        for entry, terms in expected_entries(program).items()
        for piece in expected_entry_pieces(entry, terms, program.modulus)
    )


# The same with numbers: the local list for given numbers in place of T_1, .., T_k.


def list_from_values(program, values, coins):
    """The pieces for a dict from entries to the numbers in place of their terms."""
    worth = dict(zip(expected_coins(program), coins, strict=True))
    pieces = []
    for entry, numbers in values.items():
        count = len(numbers)
        if count < 2:
            pieces.extend(numbers)
            continue
        r = [worth["r", entry, i] for i in range(1, count + 1)]
        s = [0] + [worth["s", entry, i] for i in range(1, count)] + [0]
        pieces.extend(number + pad for number, pad in zip(numbers, r))
        pieces.extend(s[i + 1] - s[i] - r[i] for i in range(count))
    return tuple(piece % program.modulus for piece in pieces)


def expected_list(program, assignment, coins):
    worth = dict(zip(expected_coins(program), coins, strict=True))
    for name, value in assignment.items():
        worth["input", name] = value
    values = {}
    for entry, terms in expected_entries(program).items():
        values[entry] = []
        for factor, term_cells in terms:
            for cell in term_cells:
                factor *= worth[cell]
            values[entry].append(factor)
    return list_from_values(program, values, coins)


def product_of(one, other):
    return [[sum(map(lambda a, b: a * b, row, column)) for column in zip(*other)] for row in one]


def expected_simulation(program, answer, coins):
    """The simulator of point 14, with matrices of numbers."""
    size = program.nodes - 1
    worth = dict(zip(expected_coins(program), coins, strict=True))
    left = [[worth.get(("R", i, j), int(i == j)) for j in range(size)] for i in range(size)]
    right = [[int(i == j) for j in range(size)] for i in range(size)]
    for b in range(size - 1):
        right[b][size - 1] = worth["u", b]
    middle = [[-1 if j == i - 1 else 0 for j in range(size)] for i in range(size)]
    middle[0][size - 1] = answer
    masked = product_of(product_of(left, middle), right)
    values = {}
    for (i, j), terms in expected_entries(program).items():
        values[i, j] = ([masked[i][j]] + [0] * len(terms))[:len(terms)]
    return list_from_values(program, values, coins)


def expected_answer(program, residues):
    """Sums the pieces of each entry, then D_0 of the matrix with these entries."""
    given = iter(residues)
    size = program.nodes - 1
    table = {}
    for entry, terms in expected_entries(program).items():
        count = len(expected_entry_pieces(entry, terms, program.modulus))
        table[entry] = sum(next(given) for _ in range(count))
    nodes = {size: 1}
    for k in reversed(range(size)):
        nodes[k] = sum(table[k, j] * nodes[j + 1] for j in range(k, size)) % program.modulus
    return nodes[0]


class EncodingTest(unittest.TestCase):
    def assert_residues(self, residues, count, modulus):
        self.assertIs(type(residues), tuple)
        self.assertEqual(len(residues), count)
        for residue in residues:
            self.assertIs(type(residue), int)
            self.assertTrue(0 <= residue < modulus)

    def assert_wrong_length(self, expected, method, *arguments):
        with self.assertRaises(WrongLength) as caught:
            method(*arguments)
        self.assertEqual(caught.exception.expected, expected)

    def assert_missing(self, name, method, *arguments):
        with self.assertRaises(MissingVariable) as caught:
            method(*arguments)
        self.assertEqual(caught.exception.name, name)

    def assert_different(self, listed, own, method, *arguments):
        with self.assertRaises(DifferentAnswers) as caught:
            method(*arguments)
        self.assertEqual((caught.exception.listed, caught.exception.own), (listed, own))


class Interface(EncodingTest):
    def test_class_and_methods(self):
        self.assertEqual(Encoding.__module__, "maskedlist.encoding")
        self.assertIs(encoding_module.Encoding, Encoding)
        self.assertEqual(list(inspect.signature(Encoding).parameters), ["formula", "modulus"])
        expected = {
            "coin_count": [],
            "polynomials": [],
            "list_for": ["assignment", "coins"],
            "answer_from": ["residues"],
            "coins_for": ["assignment", "residues"],
            "moved_coins": ["assignment", "other", "coins"],
            "simulate": ["answer", "coins"],
            "simulator_coins": ["assignment", "coins"],
        }
        for name, parameters in expected.items():
            with self.subTest(name):
                self.assertIn(name, vars(Encoding))
                method = getattr(Encoding(SUM, 2), name)
                self.assertEqual(list(inspect.signature(method).parameters), parameters)

    def test_keyword_arguments(self):
        encoding = Encoding(modulus=2, formula=SUM)
        one, other = {"x": 1, "y": 1}, {"x": 0, "y": 0}
        self.assertEqual((encoding.formula, encoding.modulus), (SUM, 2))
        self.assertEqual(encoding.list_for(coins=(0, 1, 0), assignment=one), (1, 0, 0, 1))
        self.assertEqual(encoding.answer_from(residues=(1, 0, 0, 1)), 0)
        self.assertEqual(
            encoding.coins_for(residues=(1, 0, 0, 1), assignment=other), (1, 0, 1)
        )
        self.assertEqual(
            encoding.moved_coins(coins=(0, 1, 0), other=other, assignment=one), (1, 0, 1)
        )
        self.assertEqual(encoding.simulate(coins=(1, 0, 1), answer=0), (1, 0, 0, 1))
        self.assertEqual(encoding.simulator_coins(coins=(0, 1, 0), assignment=one), (1, 0, 1))

    def test_arguments_stay_the_same(self):
        encoding = Encoding(EIGHT, 7)
        one = some_assignment(EIGHT, 7, 1)
        one["more"] = 3
        other = {name: one[name] for name in reversed(list(one))}
        before = copy.deepcopy((list(one.items()), list(other.items())))
        coins = some_residues(encoding.coin_count(), 7, 2)
        residues = encoding.list_for(one, coins)
        self.assertEqual(encoding.coins_for(one, residues), coins)
        self.assertEqual(encoding.moved_coins(one, other, coins), coins)
        moved = encoding.simulator_coins(one, coins)
        self.assertEqual(encoding.simulate(encoding.answer_from(residues), moved), residues)
        for wrong in (residues[1:], ((residues[0] + 1) % 7, *residues[1:])):
            with self.assertRaises(ValueError):
                encoding.coins_for(one, wrong)
        self.assertEqual((list(one.items()), list(other.items())), before)

    def test_nothing_is_kept(self):
        encoding = Encoding(PRODUCT, 7)
        coins = some_residues(13, 7, 2)
        assignment = {"x": 3, "y": 4}
        residues = encoding.list_for(assignment, coins)
        before = copy.deepcopy((encoding.formula, encoding.polynomials(), residues))
        assignment["x"] = 5
        self.assertNotEqual(encoding.list_for(assignment, coins), residues)
        del assignment["x"]
        self.assert_missing("x", encoding.list_for, assignment, coins)
        self.assertEqual(encoding.list_for({"x": 3, "y": 4}, coins), residues)
        after = (encoding.formula, encoding.polynomials(), encoding.list_for({"x": 3, "y": 4}, coins))
        self.assertEqual(after, before)

    def test_an_error_changes_nothing(self):
        encoding = Encoding(SUM, 5)
        for method, arguments in (
            (encoding.list_for, ({}, ())),
            (encoding.list_for, ({"x": 1, "y": 1}, ())),
            (encoding.coins_for, ({"x": 1, "y": 1}, (0, 0, 0, 0))),
            (encoding.simulate, (3, ())),
        ):
            with self.assertRaises((KeyError, ValueError)):
                method(*arguments)
            self.assertEqual((len(encoding), encoding.coin_count()), (4, 3))
            self.assertEqual(encoding.polynomials(), expected_polynomials(encoding.program))
            self.assertEqual(encoding.list_for({"x": 1, "y": 2}, (0, 1, 0)), (1, 3, 0, 4))


class Creation(EncodingTest):
    def test_example(self):
        encoding = Encoding(PRODUCT, 3)
        self.assertEqual((len(encoding), encoding.coin_count()), (14, 13))

    def test_fields(self):
        for formula, modulus in itertools.product(FORMULAS, MODULI):
            encoding = Encoding(formula, modulus)
            self.assertEqual(encoding.formula, formula)
            self.assertEqual(encoding.modulus, modulus)
            self.assertEqual(encoding.program, compile_formula(formula, modulus))

    def test_invalid_formulas(self):
        bad = (
            5, -1, True, False, None, "", "X", "abcdefg", [], {}, (), ("plus",), ("plus", "x"),
            ("plus", "x", "y", "z"), ("not", "x", "y"), ("power", "x", 2), ["plus", "x", "y"],
            ("plus", "x", ["y"]), ("plus", "x", ("not", 5)), ("times", ("or", 1, None), 7),
            (("plus",), "x", "y"), ({}, "x"), {"x": 1}, ("and", True, "x"), 10 ** 59,
        )
        for value in bad:
            with self.subTest(value=value):
                with self.assertRaises(InvalidFormula) as caught:
                    Encoding(value, 5)
                self.assertEqual(caught.exception.reason, formula_error(value, 5))
                self.assertEqual(caught.exception.reason[0], "form")

    def test_formulas_that_are_too_large(self):
        leaves = "x"
        for _ in range(8):
            leaves = ("plus", leaves, 1)
        deep = "x"
        for _ in range(13):
            deep = ("not", deep)
        for value in (leaves, deep):
            with self.assertRaises(InvalidFormula) as caught:
                Encoding(value, 5)
            self.assertEqual(caught.exception.reason, ("size", ()))
        self.assertEqual(len(Encoding(leaves[1], 5)), 4)
        self.assertEqual(Encoding(deep[1], 5).formula, deep[1])

    def test_lengths_and_coin_counts(self):
        for formula, modulus in itertools.product(FORMULAS, MODULI):
            with self.subTest(formula=formula, modulus=modulus):
                encoding = Encoding(formula, modulus)
                program = compile_formula(formula, modulus)
                self.assertEqual(len(encoding), len(expected_polynomials(program)))
                self.assertEqual(encoding.coin_count(), len(expected_coins(program)))
                self.assertIs(type(encoding.coin_count()), int)

    def test_without_pieces(self):
        for formula, modulus in itertools.product(WITHOUT_PIECES, MODULI):
            encoding = Encoding(formula, modulus)
            self.assertEqual((encoding.program.nodes, encoding.program.edges), (2, ()))
            self.assertEqual((len(encoding), encoding.coin_count()), (0, 0))
            self.assertEqual(encoding.polynomials(), ())

    def test_one_residue_less_than_coins_and_answer(self):
        for formula, modulus in itertools.product(FORMULAS, MODULI):
            encoding = Encoding(formula, modulus)
            if len(encoding) > 0:
                self.assertEqual(encoding.coin_count(), len(encoding) - 1)


class Pieces(EncodingTest):
    def test_example(self):
        self.assertEqual(
            Encoding(SUM, 2).polynomials(),
            (
                ((1, (("input", "x"),)), (1, (("coin", 0),))),
                ((1, (("input", "y"),)), (1, (("coin", 1),))),
                ((1, (("coin", 0),)), (1, (("coin", 2),))),
                ((1, (("coin", 2),)), (1, (("coin", 1),))),
            ),
        )

    def test_one_term_written_out(self):
        for modulus in MODULI:
            one = ((1, (("input", "x"),)),)
            self.assertEqual(Encoding("x", modulus).polynomials(), (one,))
            for constant in {1, modulus - 1}:
                pieces = Encoding(constant, modulus).polynomials()
                self.assertEqual(pieces, (((constant, ()),),))

    def test_three_terms_written_out(self):
        encoding = Encoding(("plus", ("minus", 2, "x"), "a"), 5)
        self.assertEqual(
            encoding.polynomials(),
            (
                ((2, ()), (1, (("coin", 0),))),
                ((1, (("input", "a"),)), (1, (("coin", 1),))),
                ((4, (("input", "x"),)), (1, (("coin", 2),))),
                ((4, (("coin", 0),)), (1, (("coin", 3),))),
                ((4, (("coin", 3),)), (4, (("coin", 1),)), (1, (("coin", 4),))),
                ((4, (("coin", 4),)), (4, (("coin", 2),))),
            ),
        )

    def test_a_product_written_out(self):
        # Coin 0 is the entry of R, coin 1 is u_0: x - R, x u - R u + R y, -u + y.
        x, y = ("input", "x"), ("input", "y")
        coins = [("coin", k) for k in range(13)]
        self.assertEqual(
            Encoding(PRODUCT, 3).polynomials(),
            (
                ((1, (x,)), (1, (coins[2],))),
                ((2, (coins[0],)), (1, (coins[3],))),
                ((2, (coins[2],)), (1, (coins[4],))),
                ((2, (coins[4],)), (2, (coins[3],))),
                ((1, (x, coins[1])), (1, (coins[5],))),
                ((2, (coins[0], coins[1])), (1, (coins[6],))),
                ((1, (coins[0], y)), (1, (coins[7],))),
                ((2, (coins[5],)), (1, (coins[8],))),
                ((2, (coins[8],)), (2, (coins[6],)), (1, (coins[9],))),
                ((2, (coins[9],)), (2, (coins[7],))),
                ((2, (coins[1],)), (1, (coins[10],))),
                ((1, (y,)), (1, (coins[11],))),
                ((2, (coins[10],)), (1, (coins[12],))),
                ((2, (coins[12],)), (2, (coins[11],))),
            ),
        )

    def test_second_reading(self):
        for formula, modulus in itertools.product(FORMULAS, MODULI):
            with self.subTest(formula=formula, modulus=modulus):
                program = compile_formula(formula, modulus)
                pieces = Encoding(formula, modulus).polynomials()
                self.assertEqual(pieces, expected_polynomials(program))

    def test_few_cells_and_few_inputs(self):
        for formula, modulus in itertools.product(FORMULAS, MODULI):
            encoding = Encoding(formula, modulus)
            self.assertIs(type(encoding.polynomials()), tuple)
            self.assertEqual(len(encoding.polynomials()), len(encoding))
            for piece in encoding.polynomials():
                self.assertIsNone(polynomial_error(piece, modulus, encoding.coin_count()))
                found = cells_of(piece)
                self.assertLessEqual(len(found), 4)
                self.assertLessEqual(len([cell for cell in found if cell[0] == "input"]), 1)

    def test_each_coin_is_used(self):
        for formula, modulus in itertools.product(FORMULAS, MODULI):
            encoding = Encoding(formula, modulus)
            used = {cell for piece in encoding.polynomials() for cell in cells_of(piece)}
            coins = {("coin", k) for k in range(encoding.coin_count())}
            self.assertEqual({cell for cell in used if cell[0] == "coin"}, coins)


class Lists(EncodingTest):
    def test_example(self):
        self.assertEqual(Encoding(SUM, 2).list_for({"x": 1, "y": 1}, (0, 1, 0)), (1, 0, 0, 1))

    def test_values_of_the_polynomials(self):
        for formula, modulus, seed in itertools.product(FORMULAS, MODULI, range(2)):
            with self.subTest(formula=formula, modulus=modulus, seed=seed):
                encoding = Encoding(formula, modulus)
                assignment = some_assignment(formula, modulus, seed)
                coins = some_residues(encoding.coin_count(), modulus, seed)
                residues = encoding.list_for(assignment, coins)
                self.assert_residues(residues, len(encoding), modulus)
                self.assertEqual(residues, expected_list(encoding.program, assignment, coins))
                values = tuple(
                    evaluate_polynomial(piece, modulus, assignment, coins)
                    for piece in encoding.polynomials()
                )
                self.assertEqual(residues, values)

    def test_lists_decode_to_the_answer(self):
        for formula, modulus, seed in itertools.product(FORMULAS, MODULI, range(2)):
            encoding = Encoding(formula, modulus)
            assignment = some_assignment(formula, modulus, seed + 3)
            coins = some_residues(encoding.coin_count(), modulus, seed + 3)
            answer = encoding.answer_from(encoding.list_for(assignment, coins))
            self.assertIs(type(answer), int)
            self.assertEqual(answer, evaluate_formula(formula, modulus, assignment))

    def test_further_keys(self):
        assignment = {"b": 1, "y": 1, "x": 1, "input": 1}
        self.assertEqual(Encoding(SUM, 2).list_for(assignment, (0, 1, 0)), (1, 0, 0, 1))

    def test_without_pieces(self):
        for formula in WITHOUT_PIECES:
            encoding = Encoding(formula, 5)
            self.assertEqual(encoding.list_for({"x": 2, "y": 4}, ()), ())
            self.assert_wrong_length(0, encoding.list_for, {"x": 2, "y": 4}, (1,))
        self.assertEqual(Encoding(0, 5).list_for({}, ()), ())

    def test_errors_in_their_order(self):
        encoding = Encoding(PRODUCT, 3)
        for coins in ((), (1,) * 12, (1,) * 14, (1,) * 40, (1,) * 13):
            self.assert_missing("x", encoding.list_for, {}, coins)
            self.assert_missing("x", encoding.list_for, {"y": 1, "z": 1}, coins)
            self.assert_missing("y", encoding.list_for, {"x": 1}, coins)
        for coins in ((), (1,), (1,) * 12, (1,) * 14, (1,) * 40):
            self.assert_wrong_length(13, encoding.list_for, {"x": 1, "y": 1}, coins)

    def test_numbers_beyond_the_residues(self):
        residues = Encoding(SUM, 5).list_for({"x": 8, "y": -1}, (-3, 7, 5))
        self.assertEqual(residues, Encoding(SUM, 5).list_for({"x": 3, "y": 4}, (2, 2, 0)))


class Answers(EncodingTest):
    def test_example(self):
        self.assertEqual(Encoding(SUM, 2).answer_from((1, 0, 0, 1)), 0)

    def test_any_list(self):
        for formula, modulus, seed in itertools.product(FORMULAS, MODULI, range(3)):
            encoding = Encoding(formula, modulus)
            residues = some_residues(len(encoding), modulus, seed + 9)
            answer = encoding.answer_from(residues)
            self.assertIs(type(answer), int)
            self.assertEqual(answer, expected_answer(encoding.program, residues))

    def test_wrong_lengths(self):
        for formula in FORMULAS:
            encoding = Encoding(formula, 7)
            count = len(encoding)
            for length in {0, 1, count - 1, count + 1, 2 * count} - {-1, count}:
                self.assert_wrong_length(count, encoding.answer_from, (1,) * length)

    def test_without_pieces(self):
        for formula in WITHOUT_PIECES:
            self.assertEqual(Encoding(formula, 5).answer_from(()), 0)
            self.assert_wrong_length(0, Encoding(formula, 5).answer_from, (0,))

    def test_numbers_beyond_the_residues(self):
        self.assertEqual(Encoding(SUM, 5).answer_from((7, -1, 5, 100)), 1)


class MainGuarantee(EncodingTest):
    def test_exactly_one_coin_vector_for_each_list_with_the_answer(self):
        for formula, modulus in SMALL:
            with self.subTest(formula=formula, modulus=modulus):
                encoding = Encoding(formula, modulus)
                for assignment in list(all_assignments(formula, modulus))[::3]:
                    self.assert_one_coin_vector(encoding, assignment)

    def assert_one_coin_vector(self, encoding, assignment):
        modulus = encoding.modulus
        own = evaluate_formula(encoding.formula, modulus, assignment)
        vectors = list(itertools.product(range(modulus), repeat=encoding.coin_count()))
        made = {encoding.list_for(assignment, coins): coins for coins in vectors}
        self.assertEqual(len(made), len(vectors))
        for residues in itertools.product(range(modulus), repeat=len(encoding)):
            listed = encoding.answer_from(residues)
            if listed == own:
                self.assertEqual(encoding.coins_for(assignment, residues), made[residues])
            else:
                self.assertNotIn(residues, made)
                self.assert_different(listed, own, encoding.coins_for, assignment, residues)


class CoinsForLists(EncodingTest):
    def test_example(self):
        encoding = Encoding(SUM, 2)
        self.assertEqual(encoding.coins_for({"x": 0, "y": 0}, (1, 0, 0, 1)), (1, 0, 1))

    def test_coins_are_returned_again(self):
        for formula, modulus, seed in itertools.product(FORMULAS, MODULI, range(2)):
            with self.subTest(formula=formula, modulus=modulus, seed=seed):
                encoding = Encoding(formula, modulus)
                assignment = some_assignment(formula, modulus, seed)
                count = encoding.coin_count()
                for coins in ((0,) * count, some_residues(count, modulus, seed)):
                    residues = expected_list(encoding.program, assignment, coins)
                    found = encoding.coins_for(assignment, residues)
                    self.assertEqual(found, coins)
                    self.assert_residues(found, count, modulus)

    def test_lists_made_independently(self):
        for formula, modulus, seed in itertools.product(FORMULAS, MODULI, range(2)):
            encoding = Encoding(formula, modulus)
            if len(encoding) == 0:
                continue
            # The last piece of entry (0, l - 1), whose factor in the answer is 1.
            entries = list(expected_entries(encoding.program).items())
            row = entries[:encoding.program.nodes - 1]
            count = sum(len(expected_entry_pieces(*entry, modulus)) for entry in row)
            assignment = some_assignment(formula, modulus, seed)
            own = evaluate_formula(formula, modulus, assignment)
            residues = list(some_residues(len(encoding), modulus, seed + 6))
            residues[count - 1] += own - expected_answer(encoding.program, residues)
            residues[count - 1] %= modulus
            coins = encoding.coins_for(assignment, tuple(residues))
            self.assert_residues(coins, encoding.coin_count(), modulus)
            self.assertEqual(expected_list(encoding.program, assignment, coins), tuple(residues))
            residues[count - 1] = (residues[count - 1] + 1) % modulus
            listed = (own + 1) % modulus
            self.assert_different(listed, own, encoding.coins_for, assignment, tuple(residues))

    def test_without_pieces(self):
        for formula in WITHOUT_PIECES:
            encoding = Encoding(formula, 5)
            self.assertEqual(encoding.coins_for({"x": 2, "y": 4}, ()), ())
            self.assert_wrong_length(0, encoding.coins_for, {"x": 2, "y": 4}, (0,))

    def test_errors_in_their_order(self):
        encoding = Encoding(SUM, 5)
        for residues in ((), (1,) * 3, (1,) * 5, (1, 2, 3, 4), (1, 2, 3, 3)):
            self.assert_missing("x", encoding.coins_for, {}, residues)
            self.assert_missing("x", encoding.coins_for, {"y": 3, "z": 1}, residues)
            self.assert_missing("y", encoding.coins_for, {"x": 3}, residues)
        for residues in ((), (1,), (1,) * 3, (1,) * 5, (2,) * 9):
            self.assert_wrong_length(4, encoding.coins_for, {"x": 1, "y": 3}, residues)
            self.assert_wrong_length(4, encoding.coins_for, {"x": 1, "y": 4}, residues)
        self.assert_different(0, 4, encoding.coins_for, {"x": 1, "y": 3}, (1, 2, 3, 4))
        self.assertEqual(encoding.coins_for({"x": 1, "y": 3}, (1, 2, 3, 3)), (0, 4, 3))

    def test_numbers_beyond_the_residues(self):
        encoding = Encoding(SUM, 5)
        self.assertEqual(encoding.coins_for({"x": 6, "y": -2}, (6, -3, 8, 13)), (0, 4, 3))


class MovedCoins(EncodingTest):
    def test_example(self):
        moved = Encoding(SUM, 2).moved_coins({"x": 1, "y": 1}, {"x": 0, "y": 0}, (0, 1, 0))
        self.assertEqual(moved, (1, 0, 1))

    def test_all_pairs_of_assignments(self):
        formulas = (SUM, PRODUCT, ("or", "x", "y"), ("times", SUM, ("not", "y")), ("not", "x"))
        for formula, modulus in itertools.product(formulas, (2, 3, 4)):
            encoding = Encoding(formula, modulus)
            coins = some_residues(encoding.coin_count(), modulus, 3)
            pairs = itertools.product(all_assignments(formula, modulus), repeat=2)
            for one, other in pairs:
                listed = evaluate_formula(formula, modulus, one)
                own = evaluate_formula(formula, modulus, other)
                if listed != own:
                    self.assert_different(listed, own, encoding.moved_coins, one, other, coins)
                    continue
                moved = encoding.moved_coins(one, other, coins)
                self.assert_residues(moved, len(coins), modulus)
                residues = encoding.list_for(one, coins)
                self.assertEqual(encoding.list_for(other, moved), residues)
                self.assertEqual(encoding.moved_coins(other, one, moved), coins)
                self.assertEqual(encoding.coins_for(other, residues), moved)

    def test_by_way_of_a_third_assignment(self):
        encoding = Encoding(PRODUCT, 7)
        points = [a for a in all_assignments(PRODUCT, 7) if a["x"] * a["y"] % 7 == 3]
        coins = some_residues(13, 7, 4)
        for one, other, third in itertools.product(points, repeat=3):
            there = encoding.moved_coins(one, third, coins)
            self.assertEqual(
                encoding.moved_coins(third, other, there), encoding.moved_coins(one, other, coins)
            )

    def test_to_the_same_assignment(self):
        for formula, modulus in itertools.product(FORMULAS, MODULI):
            encoding = Encoding(formula, modulus)
            assignment = some_assignment(formula, modulus, 1)
            coins = some_residues(encoding.coin_count(), modulus, 1)
            self.assertEqual(encoding.moved_coins(assignment, dict(assignment), coins), coins)

    def test_without_pieces(self):
        for formula in WITHOUT_PIECES:
            one, other = {"x": 2, "y": 4}, {"y": 0, "x": 1}
            self.assertEqual(Encoding(formula, 5).moved_coins(one, other, ()), ())
            self.assert_wrong_length(0, Encoding(formula, 5).moved_coins, one, other, (1,))

    def test_errors_in_their_order(self):
        encoding = Encoding(SUM, 5)
        full = {"x": 1, "y": 3}
        for coins in ((), (1, 2), (1,) * 4, (1, 2, 3)):
            self.assert_missing("y", encoding.moved_coins, {"x": 1}, {}, coins)
            self.assert_missing("y", encoding.moved_coins, {"x": 1}, {"y": 1}, coins)
            self.assert_missing("x", encoding.moved_coins, {"y": 1}, {"x": 1}, coins)
            self.assert_missing("y", encoding.moved_coins, {"x": 1}, full, coins)
            self.assert_missing("x", encoding.moved_coins, full, {}, coins)
            self.assert_missing("y", encoding.moved_coins, full, {"x": 2}, coins)
        for coins in ((), (1, 2), (1,) * 4, (1,) * 30):
            self.assert_wrong_length(3, encoding.moved_coins, full, full, coins)
            self.assert_wrong_length(3, encoding.moved_coins, full, {"x": 1, "y": 1}, coins)
        self.assert_different(4, 2, encoding.moved_coins, full, {"x": 1, "y": 1}, (1, 2, 3))


class Simulator(EncodingTest):
    def test_examples(self):
        encoding = Encoding(SUM, 2)
        self.assertEqual(encoding.simulate(0, (1, 0, 1)), (1, 0, 0, 1))
        self.assertEqual(encoding.simulator_coins({"x": 1, "y": 1}, (0, 1, 0)), (1, 0, 1))

    def test_second_reading(self):
        for formula, modulus in itertools.product(FORMULAS, MODULI):
            encoding = Encoding(formula, modulus)
            if len(encoding) == 0:
                continue
            for answer in {0, 1, modulus // 2, modulus - 1}:
                coins = some_residues(encoding.coin_count(), modulus, answer)
                residues = encoding.simulate(answer, coins)
                self.assert_residues(residues, len(encoding), modulus)
                expected = expected_simulation(encoding.program, answer, coins)
                self.assertEqual(residues, expected)
                self.assertEqual(encoding.answer_from(residues), answer)

    def test_every_answer(self):
        for formula in (1, "x", SUM, PRODUCT, ("not", "x"), ("times", "x", 0)):
            encoding = Encoding(formula, 7)
            coins = some_residues(encoding.coin_count(), 7, 5)
            for answer in range(7):
                residues = encoding.simulate(answer, coins)
                self.assertEqual(encoding.answer_from(residues), answer)
                self.assertEqual(residues, expected_simulation(encoding.program, answer, coins))

    def test_numbers_beyond_the_residues(self):
        encoding = Encoding(SUM, 5)
        self.assertEqual(encoding.simulate(8, (-1, 7, 5)), encoding.simulate(3, (4, 2, 0)))
        self.assertEqual(encoding.simulate(5, (4, 2, 0)), encoding.simulate(0, (4, 2, 0)))

    def test_simulator_coins(self):
        for formula, modulus, seed in itertools.product(FORMULAS, MODULI, range(2)):
            with self.subTest(formula=formula, modulus=modulus, seed=seed):
                encoding = Encoding(formula, modulus)
                assignment = some_assignment(formula, modulus, seed)
                coins = some_residues(encoding.coin_count(), modulus, seed)
                moved = encoding.simulator_coins(assignment, coins)
                self.assert_residues(moved, len(coins), modulus)
                answer = evaluate_formula(formula, modulus, assignment)
                residues = encoding.list_for(assignment, coins)
                self.assertEqual(encoding.simulate(answer, moved), residues)
                if len(encoding) > 0:
                    expected = expected_simulation(encoding.program, answer, moved)
                    self.assertEqual(residues, expected)

    def test_simulator_coins_are_unique(self):
        for formula, modulus in ((SUM, 3), (("times", "x", 0), 2), (("times", 0, 0), 3)):
            encoding = Encoding(formula, modulus)
            vectors = list(itertools.product(range(modulus), repeat=encoding.coin_count()))
            for assignment in all_assignments(formula, modulus):
                moved = {encoding.simulator_coins(assignment, coins) for coins in vectors}
                self.assertEqual(moved, set(vectors))

    def test_without_pieces(self):
        for formula, modulus in itertools.product(WITHOUT_PIECES, (2, 5, 1000)):
            encoding = Encoding(formula, modulus)
            self.assertEqual(encoding.simulate(0, ()), ())
            self.assertEqual(encoding.simulator_coins({"x": 1, "y": 0}, ()), ())
            for answer in range(1, min(modulus, 9)):
                self.assert_different(answer, 0, encoding.simulate, answer, ())
                self.assert_wrong_length(0, encoding.simulate, answer, (0,))
            self.assert_wrong_length(0, encoding.simulate, 0, (0,))
            self.assert_wrong_length(0, encoding.simulator_coins, {"x": 1, "y": 0}, (0,))

    def test_errors_in_their_order(self):
        encoding = Encoding(SUM, 5)
        for coins in ((), (1, 2), (1,) * 4, (1, 2, 3)):
            self.assert_missing("x", encoding.simulator_coins, {}, coins)
            self.assert_missing("y", encoding.simulator_coins, {"x": 1, "z": 1}, coins)
        for coins in ((), (1, 2), (1,) * 4, (1,) * 30):
            self.assert_wrong_length(3, encoding.simulator_coins, {"x": 1, "y": 3}, coins)
            for answer in range(5):
                self.assert_wrong_length(3, encoding.simulate, answer, coins)


class UnusedVariables(EncodingTest):
    def test_they_are_required(self):
        formula = ("plus", ("minus", "b", "b"), ("times", "y", 2))
        encoding = Encoding(formula, 5)
        self.assertEqual(encoding.program.program_variables(), ("y",))
        full = {"b": 1, "y": 3}
        coins = some_residues(encoding.coin_count(), 5, 1)
        residues = encoding.list_for(full, coins)
        for lacking, name in (({"y": 3}, "b"), ({}, "b"), ({"b": 1}, "y")):
            self.assert_missing(name, encoding.list_for, lacking, coins)
            self.assert_missing(name, encoding.coins_for, lacking, residues)
            self.assert_missing(name, encoding.moved_coins, lacking, full, coins)
            self.assert_missing(name, encoding.moved_coins, full, lacking, coins)
            self.assert_missing(name, encoding.simulator_coins, lacking, coins)
        self.assertEqual(encoding.coins_for({"b": 4, "y": 3}, residues), coins)
        self.assertEqual(encoding.moved_coins(full, {"b": 4, "y": 3}, coins), coins)

    def test_formulas_without_pieces(self):
        encoding = Encoding(("minus", "x", "x"), 5)
        self.assert_missing("x", encoding.list_for, {}, ())
        self.assert_missing("x", encoding.coins_for, {"y": 1}, (1,))
        self.assert_missing("x", encoding.moved_coins, {"x": 1}, {}, ())
        self.assert_missing("x", encoding.simulator_coins, {}, (1,))


if __name__ == "__main__":
    unittest.main()
