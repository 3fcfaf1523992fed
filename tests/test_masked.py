"""Tests of maskedlist.masked: points 3 and 10 and the interface's section on masked lists."""

import copy
import inspect
import itertools
import unittest

from maskedlist import masked
from maskedlist.errors import DifferentAnswers, MissingVariable, WrongLength
from maskedlist.masked import decode_masked, mask_coin_count, mask_coins_for, masked_list
from maskedlist.programs import BranchingProgram, compile_formula

PRODUCT = ("times", "x", "y")
THREE = ("plus", ("times", "x", ("times", "y", "x")), ("not", "y"))
# Small enough for all coin vectors and all lists: formula and moduli.
SMALL = (
    (0, (2, 3, 6)),
    ("x", (2, 3, 10)),
    (("or", "x", "y"), (2, 3, 4)),
    (PRODUCT, (2, 3, 4)),
    (("minus", PRODUCT, PRODUCT), (2, 3)),
    (THREE, (2, 3)),
    (("times", ("times", 0, "x"), ("not", "y")), (2, 3)),
)


def coin_count(size):
    return size * (size - 1) // 2 + size - 1


def some_residues(count, modulus, seed):
    """Numbers that look different for each seed, the same in each run."""
    numbers = [(at + 3) ** 3 * 11 + 23 * seed * (at + 1) + seed ** 2 for at in range(count)]
    return tuple(number // 3 % modulus for number in numbers)


def some_program(modulus, nodes, seed):
    """A program with most of the edges and the variables x and y."""
    edges = []
    for start, end in itertools.combinations(range(nodes), 2):
        mark = 7 * start + 11 * end + 5 * seed
        pairs = (("x", 1 + mark % (modulus - 1)), ("y", 1 + mark // 3 % (modulus - 1)))
        if mark % 5 != 0:
            edges.append((start, end, (mark // 2 % modulus, pairs[mark % 3:])))
    edges = [edge for edge in edges if edge[2] != (0, ())]
    return BranchingProgram(modulus, nodes, tuple(edges))


def matrix_at(program, assignment):
    """The program matrix, from the edges."""
    size = program.nodes - 1
    rows = [[0] * size for _ in range(size)]
    for k in range(1, size):
        rows[k][k - 1] = -1
    for start, end, (constant, pairs) in program.edges:
        rows[start][end - 1] = constant + sum(k * assignment[name] for name, k in pairs)
    return rows


def expected_list(program, assignment, coins):
    """The entries of R M U, each one as a sum over the entries of the three matrices."""
    matrix = matrix_at(program, assignment)
    size = len(matrix)
    given = iter(coins)
    rows = [[next(given) if j > i else int(i == j) for j in range(size)] for i in range(size)]
    columns = [[int(i == j) for j in range(size)] for i in range(size)]
    for b in range(size - 1):
        columns[b][size - 1] = next(given)
    return tuple(
        sum(
            rows[i][a] * matrix[a][b] * columns[b][j]
            for a in range(size)
            for b in range(size)
        ) % program.modulus
        for i in range(size)
        for j in range(i, size)
    )


def expected_answer(size, modulus, residues):
    """D_0 of the matrix of program shape with these entries."""
    given = iter(residues)
    table = {(i, j): next(given) for i in range(size) for j in range(i, size)}
    nodes = {size: 1}
    for k in reversed(range(size)):
        nodes[k] = sum(table[k, j] * nodes[j + 1] for j in range(k, size)) % modulus
    return nodes[0]


def all_assignments(modulus):
    return [{"x": x, "y": y} for x, y in itertools.product(range(modulus), repeat=2)]


class MaskedTest(unittest.TestCase):
    def assert_residues(self, residues, count, modulus):
        self.assertIs(type(residues), tuple)
        self.assertEqual(len(residues), count)
        for residue in residues:
            self.assertIs(type(residue), int)
            self.assertTrue(0 <= residue < modulus)

    def assert_wrong_length(self, expected, function, *arguments):
        with self.assertRaises(WrongLength) as caught:
            function(*arguments)
        self.assertEqual(caught.exception.expected, expected)

    def assert_missing(self, name, function, *arguments):
        with self.assertRaises(MissingVariable) as caught:
            function(*arguments)
        self.assertEqual(caught.exception.name, name)

    def assert_different(self, listed, own, program, assignment, residues):
        with self.assertRaises(DifferentAnswers) as caught:
            mask_coins_for(program, assignment, residues)
        self.assertEqual((caught.exception.listed, caught.exception.own), (listed, own))


class Interface(MaskedTest):
    def test_functions_and_parameters(self):
        expected = {
            "mask_coin_count": ["program"],
            "masked_list": ["program", "assignment", "coins"],
            "decode_masked": ["program", "residues"],
            "mask_coins_for": ["program", "assignment", "residues"],
        }
        for name, parameters in expected.items():
            with self.subTest(name):
                function = getattr(masked, name)
                self.assertEqual(function.__module__, "maskedlist.masked")
                self.assertEqual(list(inspect.signature(function).parameters), parameters)

    def test_keyword_arguments(self):
        program = compile_formula(PRODUCT, 7)
        assignment = {"x": 3, "y": 5}
        residues = masked_list(program, assignment, (4, 6))
        self.assertEqual(mask_coin_count(program=program), 2)
        self.assertEqual(
            masked_list(coins=(4, 6), assignment=assignment, program=program), residues
        )
        self.assertEqual(decode_masked(residues=residues, program=program), 1)
        self.assertEqual(
            mask_coins_for(residues=residues, assignment=assignment, program=program), (4, 6)
        )

    def test_arguments_stay_the_same(self):
        program = compile_formula(THREE, 7)
        assignment = {"y": 5, "x": 3, "more": 1}
        before = copy.deepcopy((vars(program), list(assignment.items())))
        coins = some_residues(5, 7, 1)
        residues = masked_list(program, assignment, coins)
        decode_masked(program, residues)
        mask_coin_count(program)
        self.assertEqual(mask_coins_for(program, assignment, residues), coins)
        changed = ((residues[0] + 1) % 7, *residues[1:])
        for wrong in (residues[1:], (*changed[:2], (changed[2] + 1) % 7, *changed[3:])):
            with self.assertRaises(ValueError):
                mask_coins_for(program, assignment, wrong)
        self.assertEqual((vars(program), list(assignment.items())), before)


class CoinCounts(MaskedTest):
    def test_example(self):
        self.assertEqual(mask_coin_count(compile_formula(PRODUCT, 3)), 2)

    def test_each_number_of_nodes(self):
        for nodes, count in zip(range(2, 10), (0, 2, 5, 9, 14, 20, 27, 35), strict=True):
            for modulus in (2, 1000):
                counted = mask_coin_count(BranchingProgram(modulus, nodes, ()))
                self.assertEqual(counted, count)
                self.assertIs(type(counted), int)

    def test_edges_have_no_part_in_it(self):
        self.assertEqual(mask_coin_count(some_program(5, 4, 1)), 5)
        self.assertEqual(mask_coin_count(compile_formula(0, 5)), 0)


class MaskedLists(MaskedTest):
    def test_example(self):
        program = compile_formula(PRODUCT, 3)
        self.assertEqual(masked_list(program, {"x": 2, "y": 2}, (2, 2)), (0, 1, 0))

    def test_two_nodes(self):
        for modulus in (2, 3, 1000):
            for x in (0, 1, modulus - 1):
                self.assertEqual(masked_list(compile_formula("x", modulus), {"x": x}, ()), (x,))
            self.assertEqual(masked_list(compile_formula(0, modulus), {}, ()), (0,))

    def test_three_nodes_written_out(self):
        # R M U = (1 r; 0 1) (x 0; -1 y) (1 u; 0 1)
        program = compile_formula(PRODUCT, 5)
        for x, y, r, u in itertools.product(range(5), repeat=4):
            expected = ((x - r) % 5, ((x - r) * u + r * y) % 5, (y - u) % 5)
            self.assertEqual(masked_list(program, {"x": x, "y": y}, (r, u)), expected)

    def test_coins_all_0(self):
        for modulus, nodes in itertools.product((2, 3, 10, 1000), range(2, 10)):
            program = some_program(modulus, nodes, 1)
            assignment = {"x": 1, "y": modulus - 1}
            matrix = matrix_at(program, assignment)
            entries = [
                matrix[i][j] % modulus for i in range(nodes - 1) for j in range(i, nodes - 1)
            ]
            coins = (0,) * coin_count(nodes - 1)
            self.assertEqual(masked_list(program, assignment, coins), tuple(entries))

    def test_all_coins(self):
        for formula, moduli in SMALL:
            for modulus in moduli:
                program = compile_formula(formula, modulus)
                count = coin_count(program.nodes - 1)
                for assignment in all_assignments(modulus)[::2]:
                    for coins in itertools.product(range(modulus), repeat=count):
                        self.assertEqual(
                            masked_list(program, assignment, coins),
                            expected_list(program, assignment, coins),
                        )

    def test_each_number_of_nodes(self):
        for modulus, nodes, seed in itertools.product((2, 3, 6, 997, 1000), range(2, 10), range(3)):
            with self.subTest(modulus=modulus, nodes=nodes, seed=seed):
                program = some_program(modulus, nodes, seed)
                assignment = {"x": (seed + 1) % modulus, "y": (7 * nodes + seed) % modulus}
                coins = some_residues(coin_count(nodes - 1), modulus, seed)
                residues = masked_list(program, assignment, coins)
                self.assertEqual(residues, expected_list(program, assignment, coins))
                self.assert_residues(residues, nodes * (nodes - 1) // 2, modulus)

    def test_numbers_beyond_the_residues(self):
        program = compile_formula(PRODUCT, 3)
        self.assertEqual(masked_list(program, {"x": 5, "y": -1}, (-1, 5)), (0, 1, 0))

    def test_errors_in_their_order(self):
        program = compile_formula(PRODUCT, 3)
        for coins in ((), (1,), (0, 0, 0), (1,) * 30):
            self.assert_wrong_length(2, masked_list, program, {"x": 1, "y": 1}, coins)
            self.assert_missing("x", masked_list, program, {}, coins)
            self.assert_missing("x", masked_list, program, {"y": 2}, coins)
            self.assert_missing("y", masked_list, program, {"x": 2, "z": 0}, coins)
        self.assert_missing("y", masked_list, program, {"x": 2}, (1, 1))
        self.assert_wrong_length(0, masked_list, compile_formula("x", 5), {"x": 1}, (1,))
        self.assert_wrong_length(0, masked_list, compile_formula(0, 5), {}, (1,))

    def test_wrong_lengths(self):
        for nodes in range(2, 10):
            program = some_program(5, nodes, 2)
            count = coin_count(nodes - 1)
            for length in {0, 1, count - 1, count + 1, count + 9} - {-1, count}:
                arguments = (program, {"x": 1, "y": 2}, (1,) * length)
                self.assert_wrong_length(count, masked_list, *arguments)


class Decoding(MaskedTest):
    def test_example(self):
        self.assertEqual(decode_masked(compile_formula(PRODUCT, 3), (0, 1, 0)), 1)

    def test_two_nodes(self):
        for residue in range(5):
            self.assertEqual(decode_masked(compile_formula("x", 5), (residue,)), residue)
            self.assertEqual(decode_masked(compile_formula(0, 5), (residue,)), residue)

    def test_three_nodes_written_out(self):
        program = compile_formula(PRODUCT, 4)
        for first, corner, last in itertools.product(range(4), repeat=3):
            expected = (first * last + corner) % 4
            self.assertEqual(decode_masked(program, (first, corner, last)), expected)

    def test_each_number_of_nodes(self):
        for modulus, nodes, seed in itertools.product((2, 3, 6, 997, 1000), range(2, 10), range(3)):
            program = some_program(modulus, nodes, seed)
            residues = some_residues(nodes * (nodes - 1) // 2, modulus, seed + 4)
            answer = decode_masked(program, residues)
            self.assertEqual(answer, expected_answer(nodes - 1, modulus, residues))
            self.assertIs(type(answer), int)

    def test_only_the_size_of_the_program_matters(self):
        residues = some_residues(6, 7, 1)
        answer = expected_answer(3, 7, residues)
        programs = (compile_formula(THREE, 7), BranchingProgram(7, 4, ()), some_program(7, 4, 1))
        for program in programs:
            self.assertEqual(decode_masked(program, residues), answer)

    def test_masked_lists_decode_to_the_value_of_the_program(self):
        for modulus, nodes, seed in itertools.product((2, 3, 6, 997, 1000), range(2, 10), range(3)):
            program = some_program(modulus, nodes, seed)
            assignment = {"x": (5 * seed + 2) % modulus, "y": (nodes + seed) % modulus}
            coins = some_residues(coin_count(nodes - 1), modulus, seed + 2)
            residues = masked_list(program, assignment, coins)
            self.assertEqual(decode_masked(program, residues), program.result(assignment))

    def test_numbers_beyond_the_residues(self):
        self.assertEqual(decode_masked(compile_formula(PRODUCT, 3), (5, 4, -1)), 2)

    def test_wrong_lengths(self):
        for nodes in range(2, 10):
            program = some_program(5, nodes, 2)
            count = nodes * (nodes - 1) // 2
            for length in {0, count - 1, count + 1, count + 9}:
                self.assert_wrong_length(count, decode_masked, program, (1,) * length)


class CoinsForLists(MaskedTest):
    def test_examples(self):
        program = compile_formula(PRODUCT, 3)
        self.assertEqual(mask_coins_for(program, {"x": 1, "y": 1}, (0, 1, 0)), (1, 1))
        self.assert_different(1, 2, program, {"x": 1, "y": 2}, (0, 1, 0))

    def test_two_nodes(self):
        program = compile_formula("x", 5)
        for x, residue in itertools.product(range(5), repeat=2):
            if x == residue:
                self.assertEqual(mask_coins_for(program, {"x": x}, (residue,)), ())
            else:
                self.assert_different(residue, x, program, {"x": x}, (residue,))
        self.assertEqual(mask_coins_for(compile_formula(0, 5), {}, (0,)), ())
        self.assert_different(3, 0, compile_formula(0, 5), {}, (3,))

    def test_coins_are_returned_again(self):
        for modulus, nodes, seed in itertools.product((2, 3, 6, 997, 1000), range(2, 10), range(3)):
            with self.subTest(modulus=modulus, nodes=nodes, seed=seed):
                program = some_program(modulus, nodes, seed)
                assignment = {"x": (seed + 1) % modulus, "y": (7 * nodes + seed) % modulus}
                count = coin_count(nodes - 1)
                for coins in ((0,) * count, some_residues(count, modulus, seed)):
                    residues = expected_list(program, assignment, coins)
                    found = mask_coins_for(program, assignment, residues)
                    self.assertEqual(found, coins)
                    self.assert_residues(found, count, modulus)

    def test_lists_made_independently(self):
        for modulus, nodes, seed in itertools.product((2, 3, 6, 997, 1000), range(2, 10), range(3)):
            program = some_program(modulus, nodes, seed)
            assignment = {"x": (seed + 2) % modulus, "y": (3 * nodes + seed) % modulus}
            residues = list(some_residues(nodes * (nodes - 1) // 2, modulus, seed + 6))
            own = program.result(assignment)
            corner = nodes - 2
            answer = expected_answer(nodes - 1, modulus, residues)
            residues[corner] = (residues[corner] + own - answer) % modulus
            coins = mask_coins_for(program, assignment, tuple(residues))
            self.assert_residues(coins, coin_count(nodes - 1), modulus)
            self.assertEqual(expected_list(program, assignment, coins), tuple(residues))
            residues[corner] = (residues[corner] + 1) % modulus
            listed = (own + 1) % modulus
            self.assert_different(listed, own, program, assignment, tuple(residues))

    def test_exactly_one_coin_vector_for_each_list_with_the_answer(self):
        for formula, moduli in SMALL:
            for modulus in moduli:
                with self.subTest(formula=formula, modulus=modulus):
                    self.assert_one_coin_vector(compile_formula(formula, modulus))

    def assert_one_coin_vector(self, program):
        modulus = program.modulus
        size = program.nodes - 1
        lists = list(itertools.product(range(modulus), repeat=size * (size + 1) // 2))
        all_coins = list(itertools.product(range(modulus), repeat=coin_count(size)))
        for assignment in all_assignments(modulus)[1::3]:
            own = program.result(assignment)
            made = {masked_list(program, assignment, coins): coins for coins in all_coins}
            self.assertEqual(len(made), len(all_coins))
            for residues in lists:
                listed = expected_answer(size, modulus, residues)
                if listed == own:
                    found = mask_coins_for(program, assignment, residues)
                    self.assertEqual(found, made[residues])
                else:
                    self.assertNotIn(residues, made)
                    self.assert_different(listed, own, program, assignment, residues)

    def test_a_list_explained_by_other_assignments(self):
        program = compile_formula(THREE, 5)
        residues = masked_list(program, {"x": 2, "y": 3}, (1, 2, 3, 4, 0))
        for assignment in all_assignments(5):
            own = program.result(assignment)
            if own == program.result({"x": 2, "y": 3}):
                coins = mask_coins_for(program, assignment, residues)
                self.assertEqual(masked_list(program, assignment, coins), residues)
            else:
                listed = program.result({"x": 2, "y": 3})
                self.assert_different(listed, own, program, assignment, residues)

    def test_errors_in_their_order(self):
        program = compile_formula(PRODUCT, 3)
        for residues in ((), (0, 1), (0, 1, 0, 0), (0, 0, 0), (0, 1, 0)):
            self.assert_missing("x", mask_coins_for, program, {}, residues)
            self.assert_missing("x", mask_coins_for, program, {"y": 1}, residues)
            self.assert_missing("y", mask_coins_for, program, {"x": 1, "z": 1}, residues)
        for residues in ((), (1,), (0, 1), (0, 1, 0, 0), (2, 2, 2, 2)):
            self.assert_wrong_length(3, mask_coins_for, program, {"x": 1, "y": 1}, residues)
            self.assert_wrong_length(3, mask_coins_for, program, {"x": 1, "y": 2}, residues)
        self.assert_different(0, 1, program, {"x": 1, "y": 1}, (0, 0, 0))

    def test_wrong_lengths(self):
        for nodes in range(2, 10):
            program = some_program(5, nodes, 2)
            count = nodes * (nodes - 1) // 2
            for length in {0, count - 1, count + 1, count + 9}:
                arguments = (program, {"x": 1, "y": 2}, (1,) * length)
                self.assert_wrong_length(count, mask_coins_for, *arguments)

    def test_numbers_beyond_the_residues(self):
        program = compile_formula(PRODUCT, 3)
        self.assertEqual(mask_coins_for(program, {"x": 4, "y": -2}, (3, -2, 6)), (1, 1))


class UnusedVariables(MaskedTest):
    def test_they_may_be_missing(self):
        program = compile_formula(("plus", ("minus", "x", "x"), ("times", "y", 2)), 5)
        residues = masked_list(program, {"y": 3}, (1, 4))
        self.assertEqual(residues, masked_list(program, {"x": 2, "y": 3}, (1, 4)))
        self.assertEqual(mask_coins_for(program, {"y": 3}, residues), (1, 4))
        self.assert_missing("y", masked_list, program, {"x": 2}, (1, 4))
        self.assert_missing("y", mask_coins_for, program, {"x": 2}, residues)
        nothing = compile_formula(("minus", "x", "x"), 5)
        self.assertEqual(masked_list(nothing, {}, ()), (0,))
        self.assertEqual(mask_coins_for(nothing, {}, (0,)), ())

    def test_variables_without_influence_that_the_program_uses(self):
        program = compile_formula(("times", 0, "x"), 5)
        self.assert_missing("x", masked_list, program, {}, (1, 4))
        self.assert_missing("x", mask_coins_for, program, {}, (0, 0, 0))


if __name__ == "__main__":
    unittest.main()
