"""Tests of maskedlist.matrices: point 4 and the interface's section on matrices."""

import inspect
import itertools
import unittest

from maskedlist import matrices
from maskedlist.matrices import identity_matrix, invert_unitriangular, multiply_matrices

SIZES = range(1, 9)
MODULI = (2, 3, 4, 5, 6, 7, 8, 9, 12, 30, 997, 999, 1000)


def entry_at(i, j, seed):
    """A number that looks different for each place and seed, the same in each run."""
    return (31 * (i + 1) * (j + 2) + 17 * (i + seed) ** 2 + 7 * (j + 3) ** 3 + 101 * seed) // 3


def some_matrix(size, modulus, seed):
    return tuple(
        tuple(entry_at(i, j, seed) % modulus for j in range(size)) for i in range(size)
    )


def some_unitriangular(size, modulus, seed):
    return tuple(
        tuple(
            1 if i == j else entry_at(i, j, seed) % modulus if j > i else 0
            for j in range(size)
        )
        for i in range(size)
    )


def expected_product(one, other, modulus):
    size = len(one)
    rows = []
    for i in range(size):
        row = []
        for j in range(size):
            total = 0
            for k in range(size):
                total = total + one[i][k] * other[k][j]
            row.append(total % modulus)
        rows.append(tuple(row))
    return tuple(rows)


def expected_identity(size):
    rows = []
    for i in range(size):
        row = [0] * size
        row[i] = 1
        rows.append(tuple(row))
    return tuple(rows)


class MatrixTest(unittest.TestCase):
    def assert_matrix(self, matrix, size, modulus):
        self.assertIs(type(matrix), tuple)
        self.assertEqual(len(matrix), size)
        for row in matrix:
            self.assertIs(type(row), tuple)
            self.assertEqual(len(row), size)
            for entry in row:
                self.assertIs(type(entry), int)
                self.assertTrue(0 <= entry < modulus)


class Interface(MatrixTest):
    def test_functions_and_parameters(self):
        expected = {
            "multiply_matrices": ["one", "other", "modulus"],
            "identity_matrix": ["size"],
            "invert_unitriangular": ["matrix", "modulus"],
        }
        for name, parameters in expected.items():
            with self.subTest(name):
                function = getattr(matrices, name)
                self.assertEqual(function.__module__, "maskedlist.matrices")
                self.assertEqual(list(inspect.signature(function).parameters), parameters)

    def test_keyword_arguments(self):
        one = some_matrix(3, 7, 1)
        other = some_matrix(3, 7, 2)
        self.assertEqual(
            multiply_matrices(modulus=7, other=other, one=one), multiply_matrices(one, other, 7)
        )
        self.assertEqual(identity_matrix(size=3), identity_matrix(3))
        matrix = some_unitriangular(3, 6, 1)
        self.assertEqual(
            invert_unitriangular(modulus=6, matrix=matrix), invert_unitriangular(matrix, 6)
        )

    def test_arguments_stay_the_same(self):
        one = some_matrix(4, 9, 1)
        other = some_matrix(4, 9, 2)
        matrix = some_unitriangular(4, 9, 3)
        before = repr((one, other, matrix))
        multiply_matrices(one, other, 9)
        invert_unitriangular(matrix, 9)
        self.assertEqual(repr((one, other, matrix)), before)


class Products(MatrixTest):
    def test_example(self):
        self.assertEqual(
            multiply_matrices(((1, 2), (0, 1)), ((2, 0), (2, 2)), 3), ((0, 1), (2, 2))
        )

    def test_sums_of_products(self):
        for size, modulus, seed in itertools.product(SIZES, MODULI, (1, 2)):
            with self.subTest(size=size, modulus=modulus, seed=seed):
                one = some_matrix(size, modulus, seed)
                other = some_matrix(size, modulus, seed + 5)
                product = multiply_matrices(one, other, modulus)
                self.assertEqual(product, expected_product(one, other, modulus))
                self.assert_matrix(product, size, modulus)

    def test_all_matrices_with_two_rows(self):
        for modulus in (2, 3):
            rows = list(itertools.product(range(modulus), repeat=2))
            every = list(itertools.product(rows, repeat=2))
            for one, other in itertools.product(every, repeat=2):
                self.assertEqual(
                    multiply_matrices(one, other, modulus), expected_product(one, other, modulus)
                )

    def test_order_of_the_factors(self):
        one = ((1, 1), (0, 1))
        other = ((1, 0), (1, 1))
        self.assertEqual(multiply_matrices(one, other, 5), ((2, 1), (1, 1)))
        self.assertEqual(multiply_matrices(other, one, 5), ((1, 1), (1, 2)))

    def test_size_one(self):
        self.assertEqual(multiply_matrices(((7,),), ((8,),), 10), ((6,),))

    def test_largest_residues(self):
        for modulus in (2, 1000):
            matrix = tuple((modulus - 1,) * 8 for _ in range(8))
            product = multiply_matrices(matrix, matrix, modulus)
            self.assertEqual(product, tuple((8 % modulus,) * 8 for _ in range(8)))

    def test_zero_divisors(self):
        self.assertEqual(multiply_matrices(((2, 0), (0, 3)), ((3, 0), (0, 2)), 6), ((0, 0), (0, 0)))

    def test_somewhat_larger_sizes_and_moduli(self):
        for size, modulus in ((9, 7), (10, 1001)):
            one = some_matrix(size, modulus, 1)
            other = some_matrix(size, modulus, 2)
            self.assertEqual(
                multiply_matrices(one, other, modulus), expected_product(one, other, modulus)
            )


class Identities(MatrixTest):
    def test_example(self):
        self.assertEqual(identity_matrix(2), ((1, 0), (0, 1)))

    def test_size_one(self):
        self.assertEqual(identity_matrix(1), ((1,),))

    def test_each_size(self):
        for size in (*SIZES, 9):
            with self.subTest(size):
                self.assertEqual(identity_matrix(size), expected_identity(size))
                self.assert_matrix(identity_matrix(size), size, 2)

    def test_it_changes_no_matrix_from_either_side(self):
        for size, modulus in itertools.product(SIZES, MODULI):
            with self.subTest(size=size, modulus=modulus):
                matrix = some_matrix(size, modulus, 3)
                identity = identity_matrix(size)
                self.assertEqual(multiply_matrices(identity, matrix, modulus), matrix)
                self.assertEqual(multiply_matrices(matrix, identity, modulus), matrix)


class Inverses(MatrixTest):
    def assert_inverse(self, matrix, modulus):
        size = len(matrix)
        inverse = invert_unitriangular(matrix, modulus)
        self.assert_matrix(inverse, size, modulus)
        for i, j in itertools.product(range(size), repeat=2):
            if j <= i:
                self.assertEqual(inverse[i][j], 1 if i == j else 0)
        identity = expected_identity(size)
        self.assertEqual(expected_product(matrix, inverse, modulus), identity)
        self.assertEqual(expected_product(inverse, matrix, modulus), identity)

    def test_example(self):
        self.assertEqual(
            invert_unitriangular(((1, 2, 3), (0, 1, 4), (0, 0, 1)), 7),
            ((1, 5, 5), (0, 1, 3), (0, 0, 1)),
        )

    def test_size_one(self):
        for modulus in MODULI:
            self.assertEqual(invert_unitriangular(((1,),), modulus), ((1,),))

    def test_size_two(self):
        for modulus in (2, 3, 4, 6, 7, 1000):
            for entry in range(modulus):
                self.assertEqual(
                    invert_unitriangular(((1, entry), (0, 1)), modulus),
                    ((1, -entry % modulus), (0, 1)),
                )

    def test_each_size_and_modulus(self):
        for size, modulus, seed in itertools.product(SIZES, MODULI, (1, 2, 3)):
            with self.subTest(size=size, modulus=modulus, seed=seed):
                self.assert_inverse(some_unitriangular(size, modulus, seed), modulus)

    def test_all_with_three_rows(self):
        for modulus in (2, 3, 4, 6):
            for a, b, c in itertools.product(range(modulus), repeat=3):
                self.assert_inverse(((1, a, b), (0, 1, c), (0, 0, 1)), modulus)

    def test_all_with_four_rows(self):
        for a, b, c, d, e, f in itertools.product(range(2), repeat=6):
            self.assert_inverse(((1, a, b, c), (0, 1, d, e), (0, 0, 1, f), (0, 0, 0, 1)), 2)

    def test_the_identity_is_its_own_inverse(self):
        for size in SIZES:
            self.assertEqual(invert_unitriangular(expected_identity(size), 6), expected_identity(size))

    def test_the_inverse_of_the_inverse(self):
        for size, modulus in itertools.product(SIZES, (4, 7)):
            matrix = some_unitriangular(size, modulus, 4)
            inverse = invert_unitriangular(matrix, modulus)
            self.assertEqual(invert_unitriangular(inverse, modulus), matrix)

    def test_largest_residues(self):
        for modulus in (2, 1000):
            matrix = tuple(
                tuple(1 if i == j else modulus - 1 if j > i else 0 for j in range(8))
                for i in range(8)
            )
            self.assert_inverse(matrix, modulus)

    def test_somewhat_larger_sizes_and_moduli(self):
        for size, modulus in ((9, 7), (10, 1001)):
            self.assert_inverse(some_unitriangular(size, modulus, 1), modulus)


if __name__ == "__main__":
    unittest.main()
