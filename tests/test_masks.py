"""Tests of maskedlist.masks: points 8 and 9 and the interface's section on masks."""

import inspect
import itertools
import unittest

from maskedlist import masks
from maskedlist.errors import DifferentAnswers, MissingVariable
from maskedlist.masks import apply_mask, mask_between, matrix_answer, node_column, program_matrix
from maskedlist.programs import BranchingProgram, compile_formula

SIZES = range(1, 9)
MODULI = (2, 3, 4, 5, 6, 7, 10, 12, 997, 1000)
# Small enough for all matrices and masks: modulus and size.
SMALL = ((2, 1), (5, 1), (2, 2), (3, 2), (4, 2), (5, 2), (6, 2), (2, 3), (3, 3))
FORMULAS = (
    0,
    1,
    "x",
    ("times", "x", "y"),
    ("plus", ("times", "x", "y"), 2),
    ("or", "x", "y"),
    ("minus", ("and", "x", ("or", "y", "z")), ("times", ("not", "x"), ("plus", "z", 1))),
    ("times", ("times", "x", "x"), ("times", ("plus", "x", "y"), ("minus", "y", "x"))),
    ("times", ("or", "x", "z"), ("times", ("or", "y", "x"), ("times", "z", ("or", "z", 2)))),
    ("times", ("or", "x", ("or", "y", "z")), ("times", ("or", "y", "x"), ("or", ("or", "z", 2), "x"))),
)


def number_at(i, j, seed):
    """A number that looks different for each place and seed, the same in each run."""
    return (37 * (i + 2) * (j + 1) + 19 * (j + seed) ** 2 + 5 * (i + 4) ** 3 + 89 * seed) // 4


def shaped(size, modulus, entry):
    """The matrix of program shape with these entries on and above the diagonal."""
    return tuple(
        tuple(
            entry(i, j) % modulus if j >= i else (modulus - 1 if j == i - 1 else 0)
            for j in range(size)
        )
        for i in range(size)
    )


def some_matrix(size, modulus, seed):
    return shaped(size, modulus, lambda i, j: number_at(i, j, seed))


def some_mask(size, modulus, seed):
    rows = tuple(
        tuple(
            1 if i == j else number_at(j, i, seed + 3) % modulus if j > i else 0
            for j in range(size)
        )
        for i in range(size)
    )
    return rows, tuple(number_at(b, 5, seed + 4) % modulus for b in range(size - 1))


def all_matrices(size, modulus):
    places = [(i, j) for i in range(size) for j in range(i, size)]
    for numbers in itertools.product(range(modulus), repeat=len(places)):
        table = dict(zip(places, numbers))
        yield shaped(size, modulus, lambda i, j: table[i, j])


def all_masks(size, modulus):
    places = list(itertools.combinations(range(size), 2))
    for numbers in itertools.product(range(modulus), repeat=len(places)):
        table = dict(zip(places, numbers))
        rows = tuple(
            tuple(1 if i == j else table.get((i, j), 0) for j in range(size)) for i in range(size)
        )
        for offsets in itertools.product(range(modulus), repeat=size - 1):
            yield rows, offsets


def product_of(one, other):
    size = len(one)
    return [
        [sum(one[i][k] * other[k][j] for k in range(size)) for j in range(size)]
        for i in range(size)
    ]


def expected_masked(matrix, mask, modulus):
    """R M U, with U written out."""
    rows, offsets = mask
    size = len(matrix)
    last = [[1 if i == j else 0 for j in range(size)] for i in range(size)]
    for b, offset in enumerate(offsets):
        last[b][size - 1] = offset
    product = product_of(product_of(rows, matrix), last)
    return tuple(tuple(entry % modulus for entry in row) for row in product)


def expected_nodes(matrix, modulus, k):
    """D_k, by the recursion of point 8."""
    if k == len(matrix):
        return 1
    return sum(
        matrix[k][j] * expected_nodes(matrix, modulus, j + 1) for j in range(k, len(matrix))
    ) % modulus


def determinant(matrix):
    """By expansion along the first column; the answer of a matrix of program shape."""
    if not matrix:
        return 1
    total = 0
    for i, row in enumerate(matrix):
        if row[0] != 0:
            rest = [other[1:] for at, other in enumerate(matrix) if at != i]
            total = total + (-1) ** i * row[0] * determinant(rest)
    return total


class MaskTest(unittest.TestCase):
    def assert_shape(self, matrix, size, modulus):
        self.assertIs(type(matrix), tuple)
        self.assertEqual(len(matrix), size)
        for i, row in enumerate(matrix):
            self.assertIs(type(row), tuple)
            self.assertEqual(len(row), size)
            for j, entry in enumerate(row):
                self.assertIs(type(entry), int)
                self.assertTrue(0 <= entry < modulus)
                if j < i:
                    self.assertEqual(entry, modulus - 1 if j == i - 1 else 0)

    def assert_mask(self, mask, size, modulus):
        self.assertIs(type(mask), tuple)
        rows, offsets = mask
        self.assertIs(type(rows), tuple)
        self.assertEqual(len(rows), size)
        for i, row in enumerate(rows):
            self.assertIs(type(row), tuple)
            self.assertEqual(len(row), size)
            self.assertEqual(row[:i + 1], (0,) * i + (1,))
            self.assertTrue(all(type(entry) is int and 0 <= entry < modulus for entry in row))
        self.assertIs(type(offsets), tuple)
        self.assertEqual(len(offsets), size - 1)
        self.assertTrue(all(type(entry) is int and 0 <= entry < modulus for entry in offsets))


class Interface(MaskTest):
    def test_functions_and_parameters(self):
        expected = {
            "program_matrix": ["program", "assignment"],
            "matrix_answer": ["matrix", "modulus"],
            "node_column": ["matrix", "modulus"],
            "apply_mask": ["matrix", "mask", "modulus"],
            "mask_between": ["one", "other", "modulus"],
        }
        for name, parameters in expected.items():
            with self.subTest(name):
                function = getattr(masks, name)
                self.assertEqual(function.__module__, "maskedlist.masks")
                self.assertEqual(list(inspect.signature(function).parameters), parameters)

    def test_keyword_arguments(self):
        program = compile_formula(("or", "x", "y"), 7)
        assignment = {"x": 3, "y": 5}
        matrix = program_matrix(program, assignment)
        self.assertEqual(program_matrix(assignment=assignment, program=program), matrix)
        self.assertEqual(matrix_answer(modulus=7, matrix=matrix), matrix_answer(matrix, 7))
        self.assertEqual(node_column(modulus=7, matrix=matrix), node_column(matrix, 7))
        mask = some_mask(2, 7, 1)
        masked = apply_mask(matrix, mask, 7)
        self.assertEqual(apply_mask(modulus=7, mask=mask, matrix=matrix), masked)
        self.assertEqual(mask_between(modulus=7, other=masked, one=matrix), mask)

    def test_arguments_stay_the_same(self):
        program = compile_formula(("or", "x", "y"), 7)
        assignment = {"y": 5, "x": 3, "more": 1}
        matrix = some_matrix(4, 7, 1)
        mask = some_mask(4, 7, 2)
        before = repr((vars(program), assignment, matrix, mask))
        program_matrix(program, assignment)
        matrix_answer(matrix, 7)
        node_column(matrix, 7)
        masked = apply_mask(matrix, mask, 7)
        after = repr(masked)
        mask_between(matrix, masked, 7)
        with self.assertRaises(DifferentAnswers):
            mask_between(((1,),), ((2,),), 7)
        self.assertEqual(repr((vars(program), assignment, matrix, mask)), before)
        self.assertEqual(repr(masked), after)

    def test_the_assignment_is_not_kept(self):
        program = compile_formula("x", 7)
        assignment = {"x": 3}
        self.assertEqual(program_matrix(program, assignment), ((3,),))
        assignment["x"] = 4
        self.assertEqual(program_matrix(program, assignment), ((4,),))


class ProgramMatrices(MaskTest):
    def test_example(self):
        program = compile_formula(("times", "x", "y"), 3)
        self.assertEqual(program_matrix(program, {"x": 2, "y": 2}), ((2, 0), (2, 2)))

    def test_two_nodes(self):
        self.assertEqual(program_matrix(compile_formula("x", 5), {"x": 3}), ((3,),))
        self.assertEqual(program_matrix(compile_formula(4, 5), {}), ((4,),))
        self.assertEqual(program_matrix(compile_formula(0, 5), {}), ((0,),))

    def test_written_out(self):
        edges = (
            (0, 2, (3, (("x", 2),))),
            (0, 3, (0, (("y", 1),))),
            (1, 2, (9, ())),
            (2, 4, (5, (("x", 1), ("y", 9)))),
        )
        program = BranchingProgram(10, 5, edges)
        expected = ((0, 7, 4, 0), (9, 9, 0, 0), (0, 9, 0, 3), (0, 0, 9, 0))
        self.assertEqual(program_matrix(program, {"x": 2, "y": 4}), expected)

    def test_each_edge_has_its_entry(self):
        for nodes in range(2, 10):
            pairs = list(itertools.combinations(range(nodes), 2))
            for start, end in pairs:
                program = BranchingProgram(7, nodes, ((start, end, (3, ())),))
                expected = shaped(nodes - 1, 7, lambda i, j: 3 * ((i, j + 1) == (start, end)))
                self.assertEqual(program_matrix(program, {}), expected)
            edges = tuple((i, j, ((i + 3 * j) % 49 + 1, ())) for i, j in pairs)
            expected = shaped(nodes - 1, 50, lambda i, j: (i + 3 * (j + 1)) % 49 + 1)
            self.assertEqual(program_matrix(BranchingProgram(50, nodes, edges), {}), expected)

    def test_without_edges(self):
        for modulus, nodes in itertools.product((2, 3, 1000), range(2, 10)):
            program = BranchingProgram(modulus, nodes, ())
            expected = shaped(nodes - 1, modulus, lambda i, j: 0)
            self.assertEqual(program_matrix(program, {}), expected)

    def test_answer_and_node_column(self):
        for formula, modulus in itertools.product(FORMULAS, (3, 4, 7, 10)):
            program = compile_formula(formula, modulus)
            for x, y in itertools.product(range(modulus), repeat=2):
                assignment = {"x": x, "y": y, "z": (2 * x + y + 1) % modulus}
                matrix = program_matrix(program, assignment)
                self.assert_shape(matrix, len(program) - 1, modulus)
                self.assertEqual(matrix_answer(matrix, modulus), program.result(assignment))
                expected = program.node_values(assignment)[1:]
                self.assertEqual(node_column(matrix, modulus), expected)

    def test_values_beyond_the_residues(self):
        program = compile_formula(("times", "x", "y"), 3)
        self.assertEqual(program_matrix(program, {"x": 5, "y": -1}), ((2, 0), (2, 2)))

    def test_missing_variables(self):
        program = compile_formula(("times", ("plus", "c", "b"), ("plus", "a", "d")), 5)
        cases = (
            ({}, "a"),
            ({"a": 0}, "b"),
            ({"a": 0, "c": 1, "d": 2}, "b"),
            ({"a": 0, "b": 1, "e": 2}, "c"),
            ({"c": 0, "b": 1, "a": 2}, "d"),
        )
        for assignment, name in cases:
            with self.assertRaises(MissingVariable) as caught:
                program_matrix(program, assignment)
            self.assertEqual(caught.exception.name, name)

    def test_a_variable_that_the_program_does_not_use(self):
        program = compile_formula(("plus", ("minus", "x", "x"), "y"), 5)
        self.assertEqual(program_matrix(program, {"y": 2}), ((2,),))


class MatrixAnswers(MaskTest):
    def test_examples(self):
        self.assertEqual(matrix_answer(((2, 0), (2, 2)), 3), 1)
        self.assertEqual(node_column(((2, 0), (2, 2)), 3), (2, 1))

    def test_one_row(self):
        for modulus in MODULI:
            for entry in range(min(modulus, 20)):
                self.assertEqual(matrix_answer(((entry,),), modulus), entry)
                self.assertEqual(node_column(((entry,),), modulus), (1,))

    def test_by_the_recursion(self):
        for size, modulus, seed in itertools.product(SIZES, MODULI, range(3)):
            with self.subTest(size=size, modulus=modulus, seed=seed):
                matrix = some_matrix(size, modulus, seed)
                nodes = tuple(expected_nodes(matrix, modulus, k) for k in range(size + 1))
                answer = matrix_answer(matrix, modulus)
                column = node_column(matrix, modulus)
                self.assertEqual((answer, *column), nodes)
                self.assertIs(type(answer), int)
                self.assertIs(type(column), tuple)

    def test_the_answer_is_the_determinant(self):
        for size, modulus in itertools.product(SIZES, (2, 6, 997)):
            matrix = some_matrix(size, modulus, 1)
            negative = [
                [-1 if j == i - 1 else entry for j, entry in enumerate(row)]
                for i, row in enumerate(matrix)
            ]
            self.assertEqual(matrix_answer(matrix, modulus), determinant(negative) % modulus)

    def test_written_out(self):
        matrix = ((1, 2, 3), (9, 4, 5), (0, 9, 6))
        # D_2 = 6, D_1 = 4 * 6 + 5 = 29, D_0 = 29 + 2 * 6 + 3 = 44 (modulo 10: 9, 4).
        self.assertEqual(node_column(matrix, 10), (9, 6, 1))
        self.assertEqual(matrix_answer(matrix, 10), 4)

    def test_entries_and_sizes_beyond_the_limits(self):
        self.assertEqual(matrix_answer(((8, 5), (-1, 7)), 5), 1)
        self.assertEqual(node_column(((8, 5), (-1, 7)), 5), (2, 1))
        ones = shaped(11, 1009, lambda i, j: 1)
        self.assertEqual(matrix_answer(ones, 1009), 1024 - 1009)


class ApplyMask(MaskTest):
    def test_example(self):
        masked = apply_mask(((2, 0), (2, 2)), (((1, 2), (0, 1)), (2,)), 3)
        self.assertEqual(masked, ((0, 1), (2, 0)))

    def test_one_row(self):
        for modulus in MODULI:
            self.assertEqual(apply_mask(((1,),), (((1,),), ()), modulus), ((1,),))
            self.assertEqual(
                apply_mask(((modulus - 1,),), (((1,),), ()), modulus), ((modulus - 1,),)
            )

    def test_products(self):
        for size, modulus, seed in itertools.product(SIZES, MODULI, range(3)):
            with self.subTest(size=size, modulus=modulus, seed=seed):
                matrix = some_matrix(size, modulus, seed)
                mask = some_mask(size, modulus, seed)
                masked = apply_mask(matrix, mask, modulus)
                self.assertEqual(masked, expected_masked(matrix, mask, modulus))
                self.assert_shape(masked, size, modulus)
                self.assertEqual(matrix_answer(masked, modulus), matrix_answer(matrix, modulus))

    def test_written_out(self):
        matrix = ((1, 2, 3), (9, 4, 5), (0, 9, 6))
        only_rows = (((1, 2, 3), (0, 1, 4), (0, 0, 1)), (0, 0))
        self.assertEqual(apply_mask(matrix, only_rows, 10), ((9, 7, 1), (9, 0, 9), (0, 9, 6)))
        only_column = (((1, 0, 0), (0, 1, 0), (0, 0, 1)), (5, 7))
        self.assertEqual(apply_mask(matrix, only_column, 10), ((1, 2, 2), (9, 4, 8), (0, 9, 9)))

    def test_the_mask_that_changes_nothing(self):
        for size in SIZES:
            rows = tuple(tuple(1 if i == j else 0 for j in range(size)) for i in range(size))
            matrix = some_matrix(size, 6, size)
            self.assertEqual(apply_mask(matrix, (rows, (0,) * (size - 1)), 6), matrix)

    def test_all_small_masks_give_all_matrices_with_the_answer_once(self):
        for modulus, size in SMALL:
            with self.subTest(modulus=modulus, size=size):
                by_answer = {}
                for matrix in all_matrices(size, modulus):
                    by_answer.setdefault(matrix_answer(matrix, modulus), set()).add(matrix)
                self.assertEqual(sorted(by_answer), list(range(modulus)))
                given = [some_matrix(size, modulus, seed) for seed in range(3)]
                given.extend(min(found) for found in by_answer.values())
                for matrix in given:
                    masked = [apply_mask(matrix, mask, modulus) for mask in all_masks(size, modulus)]
                    self.assertEqual(len(set(masked)), len(masked))
                    self.assertEqual(set(masked), by_answer[matrix_answer(matrix, modulus)])

    def test_numbers_beyond_the_residues(self):
        masked = apply_mask(((5, 3), (-1, -1)), (((1, 5), (0, 1)), (-1,)), 3)
        self.assertEqual(masked, ((0, 1), (2, 0)))
        matrix = some_matrix(9, 1009, 1)
        mask = some_mask(9, 1009, 2)
        self.assertEqual(apply_mask(matrix, mask, 1009), expected_masked(matrix, mask, 1009))


class MaskBetween(MaskTest):
    def test_example(self):
        mask = mask_between(((2, 0), (2, 2)), ((0, 1), (2, 0)), 3)
        self.assertEqual(mask, (((1, 2), (0, 1)), (2,)))

    def test_one_row(self):
        for modulus in MODULI:
            for entry in (0, 1, modulus - 1):
                self.assertEqual(mask_between(((entry,),), ((entry,),), modulus), (((1,),), ()))

    def test_the_mask_that_was_applied(self):
        for size, modulus, seed in itertools.product(SIZES, MODULI, range(4)):
            with self.subTest(size=size, modulus=modulus, seed=seed):
                matrix = some_matrix(size, modulus, seed)
                mask = some_mask(size, modulus, seed + 5)
                masked = expected_masked(matrix, mask, modulus)
                found = mask_between(matrix, masked, modulus)
                self.assertEqual(found, mask)
                self.assert_mask(found, size, modulus)

    def test_matrices_made_independently(self):
        for size, modulus, seed in itertools.product(SIZES, MODULI, range(4)):
            with self.subTest(size=size, modulus=modulus, seed=seed):
                one = some_matrix(size, modulus, seed)
                other = some_matrix(size, modulus, seed + 9)
                missing = matrix_answer(one, modulus) - matrix_answer(other, modulus)
                corner = (other[0][-1] + missing) % modulus
                other = ((*other[0][:-1], corner), *other[1:])
                mask = mask_between(one, other, modulus)
                self.assert_mask(mask, size, modulus)
                self.assertEqual(expected_masked(one, mask, modulus), other)

    def test_all_small_pairs(self):
        for modulus, size in ((2, 1), (5, 1), (2, 2), (3, 2), (4, 2), (2, 3)):
            matrices = list(all_matrices(size, modulus))
            for one, other in itertools.product(matrices, repeat=2):
                own = expected_nodes(one, modulus, 0)
                listed = expected_nodes(other, modulus, 0)
                if own == listed:
                    mask = mask_between(one, other, modulus)
                    self.assertEqual(expected_masked(one, mask, modulus), other)
                    self.assert_mask(mask, size, modulus)
                else:
                    with self.assertRaises(DifferentAnswers) as caught:
                        mask_between(one, other, modulus)
                    error = caught.exception
                    self.assertEqual((error.listed, error.own), (listed, own))

    def test_the_same_matrix(self):
        for size in SIZES:
            rows = tuple(tuple(1 if i == j else 0 for j in range(size)) for i in range(size))
            matrix = some_matrix(size, 10, size)
            self.assertEqual(mask_between(matrix, matrix, 10), (rows, (0,) * (size - 1)))

    def test_different_answers(self):
        with self.assertRaises(DifferentAnswers) as caught:
            mask_between(((3,),), ((5,),), 7)
        self.assertEqual((caught.exception.listed, caught.exception.own), (5, 3))
        for size, seed in itertools.product(SIZES, range(4)):
            one = some_matrix(size, 997, seed)
            other = some_matrix(size, 997, seed + 1)
            with self.assertRaises(DifferentAnswers) as caught:
                mask_between(one, other, 997)
            self.assertEqual(caught.exception.own, expected_nodes(one, 997, 0))
            self.assertEqual(caught.exception.listed, expected_nodes(other, 997, 0))
        self.assertIsInstance(caught.exception, ValueError)

    def test_numbers_beyond_the_residues(self):
        mask = mask_between(((5, 3), (-1, -1)), ((3, 4), (2, -3)), 3)
        self.assertEqual(mask, (((1, 2), (0, 1)), (2,)))
        matrix = some_matrix(9, 1009, 1)
        mask = some_mask(9, 1009, 2)
        self.assertEqual(mask_between(matrix, expected_masked(matrix, mask, 1009), 1009), mask)


if __name__ == "__main__":
    unittest.main()
