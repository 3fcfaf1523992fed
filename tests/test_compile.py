"""Tests of compile_formula: point 7 and the interface's section on programs."""

import inspect
import itertools
import unittest

from maskedlist.errors import InvalidFormula
from maskedlist.formulas import evaluate_formula, formula_error, formula_variables
from maskedlist.programs import BranchingProgram, compile_formula

WORDS = ("plus", "minus", "times", "and", "or")
X = (0, (("x", 1),))
Y = (0, (("y", 1),))
Z = (0, (("z", 1),))
ALL_WORDS = ("plus", ("times", "a", "b"), ("or", ("not", "c"), ("minus", "d", ("and", "e", "f"))))


def nested_not(depth, leaf):
    for _ in range(depth):
        leaf = ("not", leaf)
    return leaf


def chain(word, leaves):
    """Join the leaves with this word, each one with all that follow it."""
    formula = leaves[-1]
    for leaf in reversed(leaves[:-1]):
        formula = (word, leaf, formula)
    return formula


def shallow_formulas(leaves):
    """All formulas over these leaves with at most one operator."""
    found = list(leaves)
    found.extend(("not", leaf) for leaf in leaves)
    found.extend((word, e, f) for word in WORDS for e in leaves for f in leaves)
    return found


def paired(formulas):
    """Each word over formulas that stand at different places of the sequence."""
    for at, formula in enumerate(formulas):
        other = formulas[(7 * at + 3) % len(formulas)]
        yield ("not", formula)
        yield (WORDS[at % len(WORDS)], formula, other)
        yield (WORDS[(at // 5 + 2) % len(WORDS)], other, formula)


# An independent reading of point 7: names are given to the nodes, and edges carry polynomials
# with any integers as coefficients; nodes get their numbers, and coefficients their residues,
# at the very end. A draft is a list of inner nodes and a list of edges.


def draft_of(formula, path):
    if isinstance(formula, int):
        return [], [("source", "sink", {"": formula})]
    if isinstance(formula, str):
        return [], [("source", "sink", {formula: 1})]
    word, *operands = formula
    if word == "not":
        return draft_of(("minus", 1, operands[0]), path)
    if word == "or":
        return draft_of(("not", ("times", ("not", operands[0]), ("not", operands[1]))), path)
    inner, edges = draft_of(operands[0], path + (1,))
    other_inner, other_edges = draft_of(operands[1], path + (2,))
    if word in ("times", "and"):
        edges = [(s, path if e == "sink" else e, form) for s, e, form in edges]
        other_edges = [(path if s == "source" else s, e, form) for s, e, form in other_edges]
        return inner + [path] + other_inner, edges + other_edges
    if word == "minus":
        other_edges = [
            (s, e, {name: -k for name, k in form.items()} if s == "source" else form)
            for s, e, form in other_edges
        ]
    return inner + other_inner, edges + other_edges


def expected_program(formula, modulus):
    """The pair of the number of nodes and the edges."""
    inner, edges = draft_of(formula, ())
    order = ["source", *inner, "sink"]
    totals = {}
    for start, end, form in edges:
        total = totals.setdefault((order.index(start), order.index(end)), {})
        for name, factor in form.items():
            total[name] = (total.get(name, 0) + factor) % modulus
    found = []
    for (start, end), total in sorted(totals.items()):
        pairs = tuple((name, k) for name, k in sorted(total.items()) if name != "" and k != 0)
        form = (total.get("", 0), pairs)
        if form != (0, ()):
            found.append((start, end, form))
    return len(order), tuple(found)


class CompileTest(unittest.TestCase):
    def assert_program(self, formula, modulus, nodes, edges):
        program = compile_formula(formula, modulus)
        self.assertIs(type(program), BranchingProgram)
        self.assertEqual(program.modulus, modulus)
        self.assertEqual((program.nodes, program.edges), (nodes, edges), (formula, modulus))

    def assert_as_expected(self, formula, modulus):
        self.assertIsNone(formula_error(formula, modulus))
        self.assert_program(formula, modulus, *expected_program(formula, modulus))

    def assert_answers(self, formula, modulus, assignments):
        program = compile_formula(formula, modulus)
        for assignment in assignments:
            self.assertEqual(
                program.result(assignment), evaluate_formula(formula, modulus, assignment), formula
            )


class Interface(CompileTest):
    def test_function_and_parameters(self):
        self.assertEqual(compile_formula.__module__, "maskedlist.programs")
        parameters = list(inspect.signature(compile_formula).parameters)
        self.assertEqual(parameters, ["formula", "modulus"])

    def test_keyword_arguments(self):
        program = compile_formula(modulus=5, formula=ALL_WORDS)
        self.assertEqual(program, compile_formula(ALL_WORDS, 5))

    def test_arguments_stay_the_same(self):
        formula = ("plus", "x", ["y", {"z": [1]}])
        with self.assertRaises(InvalidFormula):
            compile_formula(formula, 5)
        self.assertEqual(formula, ("plus", "x", ["y", {"z": [1]}]))

    def test_programs_are_new(self):
        self.assertIsNot(compile_formula("x", 5), compile_formula("x", 5))

    def test_programs_of_formulas_are_programs_like_others(self):
        self.assertEqual(compile_formula("x", 5), BranchingProgram(5, 2, ((0, 1, X),)))
        self.assertNotEqual(compile_formula("x", 5), compile_formula("x", 7))


class Leaves(CompileTest):
    def test_residues(self):
        for modulus in (2, 3, 10, 1000):
            for residue in (1, 2, modulus - 1):
                if residue < modulus:
                    self.assert_program(residue, modulus, 2, ((0, 1, (residue, ())),))

    def test_zero(self):
        for modulus in (2, 3, 10, 1000):
            self.assert_program(0, modulus, 2, ())

    def test_variables(self):
        for name in ("x", "abcdef", "not"):
            self.assert_program(name, 2, 2, ((0, 1, (0, ((name, 1),))),))
            self.assert_program(name, 7, 2, ((0, 1, (0, ((name, 1),))),))


class Sums(CompileTest):
    def test_of_leaves(self):
        self.assert_program(("plus", "x", "y"), 5, 2, ((0, 1, (0, (("x", 1), ("y", 1)))),))
        self.assert_program(("plus", "y", "x"), 5, 2, ((0, 1, (0, (("x", 1), ("y", 1)))),))
        self.assert_program(("plus", "x", 2), 5, 2, ((0, 1, (2, (("x", 1),))),))
        self.assert_program(("plus", 3, "x"), 5, 2, ((0, 1, (3, (("x", 1),))),))
        self.assert_program(("plus", 3, 4), 5, 2, ((0, 1, (2, ())),))
        self.assert_program(("plus", "x", "x"), 5, 2, ((0, 1, (0, (("x", 2),))),))

    def test_with_zero(self):
        for formula in (("plus", "x", 0), ("plus", 0, "x"), ("minus", "x", 0)):
            self.assert_program(formula, 5, 2, ((0, 1, X),))
        self.assert_program(("plus", 0, 0), 5, 2, ())
        self.assert_program(("minus", 0, 0), 5, 2, ())

    def test_whose_sum_is_the_zero_form(self):
        self.assert_program(("plus", 2, 3), 5, 2, ())
        self.assert_program(("plus", "x", "x"), 2, 2, ())
        self.assert_program(("minus", "x", "x"), 5, 2, ())
        self.assert_program(("minus", 4, 4), 5, 2, ())
        twice = ("plus", "x", "x")
        self.assert_program(("plus", twice, "x"), 3, 2, ())
        self.assert_program(("plus", ("plus", "x", 1), ("minus", 2, "x")), 3, 2, ())

    def test_in_which_a_part_of_the_form_vanishes(self):
        self.assert_program(("plus", ("plus", "x", 1), 4), 5, 2, ((0, 1, X),))
        formula = ("minus", ("plus", "x", "y"), "x")
        self.assert_program(formula, 5, 2, ((0, 1, Y),))
        formula = ("plus", ("plus", "x", "y"), ("plus", "y", "z"))
        self.assert_program(formula, 2, 2, ((0, 1, (0, (("x", 1), ("z", 1)))),))

    def test_a_vanished_edge_comes_back(self):
        formula = ("plus", ("minus", "x", "x"), "y")
        self.assert_program(formula, 5, 2, ((0, 1, Y),))

    def test_inner_nodes_of_both(self):
        formula = ("plus", ("times", "x", "y"), ("times", "z", "x"))
        edges = ((0, 1, X), (0, 2, Z), (1, 3, Y), (2, 3, X))
        self.assert_program(formula, 5, 4, edges)

    def test_inner_nodes_of_one(self):
        edges = ((0, 1, X), (0, 2, Z), (1, 2, Y))
        self.assert_program(("plus", ("times", "x", "y"), "z"), 5, 3, edges)
        self.assert_program(("plus", "z", ("times", "x", "y")), 5, 3, edges)

    def test_edges_from_source_to_sink_beside_inner_nodes(self):
        one = ("plus", ("times", "x", "y"), 2)
        other = ("plus", ("times", "y", "x"), "z")
        edges = ((0, 1, X), (0, 2, Y), (0, 3, (2, (("z", 1),))), (1, 3, Y), (2, 3, X))
        self.assert_program(("plus", one, other), 5, 4, edges)
        opposite = ("plus", ("times", "y", "x"), 3)
        edges = ((0, 1, X), (0, 2, Y), (1, 3, Y), (2, 3, X))
        self.assert_program(("plus", one, opposite), 5, 4, edges)

    def test_chains_of_inner_nodes(self):
        one = ("times", "x", ("times", "y", "z"))
        edges = ((0, 1, X), (0, 3, X), (1, 2, Y), (2, 5, Z), (3, 4, Y), (4, 5, Z))
        self.assert_program(("plus", one, one), 5, 6, edges)

    def test_example(self):
        formula = ("plus", ("times", "x", "y"), 2)
        edges = ((0, 1, X), (0, 2, (2, ())), (1, 2, Y))
        self.assert_program(formula, 5, 3, edges)


class Differences(CompileTest):
    def test_of_leaves(self):
        self.assert_program(("minus", "x", "y"), 5, 2, ((0, 1, (0, (("x", 1), ("y", 4)))),))
        self.assert_program(("minus", "y", "x"), 5, 2, ((0, 1, (0, (("x", 4), ("y", 1)))),))
        self.assert_program(("minus", "x", 2), 5, 2, ((0, 1, (3, (("x", 1),))),))
        self.assert_program(("minus", 2, "x"), 5, 2, ((0, 1, (2, (("x", 4),))),))
        self.assert_program(("minus", 2, 4), 5, 2, ((0, 1, (3, ())),))
        self.assert_program(("minus", 0, "x"), 5, 2, ((0, 1, (0, (("x", 4),))),))
        self.assert_program(("minus", "x", "y"), 2, 2, ((0, 1, (0, (("x", 1), ("y", 1)))),))

    def test_only_edges_from_the_source_are_negated(self):
        formula = ("minus", 0, ("times", ("plus", "x", 1), ("plus", "y", 2)))
        edges = ((0, 1, (4, (("x", 4),))), (1, 2, (2, (("y", 1),))))
        self.assert_program(formula, 5, 3, edges)

    def test_all_edges_from_the_source_are_negated(self):
        formula = ("minus", "z", ("plus", ("times", "x", "y"), ("times", 3, ("plus", "x", 1))))
        edges = (
            (0, 1, (0, (("x", 4),))),
            (0, 2, (2, ())),
            (0, 3, Z),
            (1, 3, Y),
            (2, 3, (1, (("x", 1),))),
        )
        self.assert_program(formula, 5, 4, edges)

    def test_the_first_program_is_not_negated(self):
        formula = ("minus", ("times", "x", "y"), "z")
        edges = ((0, 1, X), (0, 2, (0, (("z", 4),))), (1, 2, Y))
        self.assert_program(formula, 5, 3, edges)

    def test_of_a_formula_and_itself(self):
        one = ("times", "x", "y")
        edges = ((0, 1, X), (0, 2, (0, (("x", 5),))), (1, 3, Y), (2, 3, Y))
        self.assert_program(("minus", one, one), 6, 4, edges)

    def test_nested(self):
        formula = ("minus", "x", ("minus", "y", ("minus", "z", 1)))
        self.assert_program(formula, 5, 2, ((0, 1, (4, (("x", 1), ("y", 4), ("z", 1)))),))


class Products(CompileTest):
    def test_of_leaves(self):
        for word in ("times", "and"):
            self.assert_program((word, "x", "y"), 5, 3, ((0, 1, X), (1, 2, Y)))
            self.assert_program((word, "y", "x"), 5, 3, ((0, 1, Y), (1, 2, X)))
            self.assert_program((word, "x", "x"), 2, 3, ((0, 1, X), (1, 2, X)))
            self.assert_program((word, 2, 3), 6, 3, ((0, 1, (2, ())), (1, 2, (3, ()))))

    def test_with_zero_and_one(self):
        for word in ("times", "and"):
            self.assert_program((word, 0, "x"), 5, 3, ((1, 2, X),))
            self.assert_program((word, "x", 0), 5, 3, ((0, 1, X),))
            self.assert_program((word, 0, 0), 5, 3, ())
            self.assert_program((word, 1, "x"), 5, 3, ((0, 1, (1, ())), (1, 2, X)))

    def test_nested(self):
        edges = ((0, 1, X), (1, 2, Y), (2, 3, Z))
        self.assert_program(("times", "x", ("and", "y", "z")), 5, 4, edges)
        self.assert_program(("and", ("times", "x", "y"), "z"), 5, 4, edges)

    def test_of_sums(self):
        one = ("plus", ("times", "x", "y"), "z")
        edges = ((0, 1, X), (0, 2, Z), (1, 2, Y), (2, 3, X), (2, 4, Z), (3, 4, Y))
        self.assert_program(("times", one, one), 5, 5, edges)


class Negations(CompileTest):
    def test_of_leaves(self):
        self.assert_program(("not", "x"), 5, 2, ((0, 1, (1, (("x", 4),))),))
        self.assert_program(("not", "x"), 2, 2, ((0, 1, (1, (("x", 1),))),))
        self.assert_program(("not", 0), 5, 2, ((0, 1, (1, ())),))
        self.assert_program(("not", 1), 5, 2, ())
        self.assert_program(("not", 3), 5, 2, ((0, 1, (3, ())),))

    def test_twice(self):
        self.assert_program(("not", ("not", "x")), 5, 2, ((0, 1, X),))

    def test_of_a_product(self):
        edges = ((0, 1, (0, (("x", 4),))), (0, 2, (1, ())), (1, 2, Y))
        self.assert_program(("not", ("times", "x", "y")), 5, 3, edges)
        edges = ((0, 1, X), (1, 2, Y))
        self.assert_program(("not", ("not", ("times", "x", "y"))), 5, 3, edges)

    def test_like_one_minus(self):
        for modulus in (2, 3, 6):
            for formula in shallow_formulas((0, 1, "x", "y")):
                self.assertEqual(
                    compile_formula(("not", formula), modulus),
                    compile_formula(("minus", 1, formula), modulus),
                )


class Disjunctions(CompileTest):
    def test_of_leaves(self):
        # The product of 1 - x and 1 - y, negated at the source, and 1.
        edges = ((0, 1, (4, (("x", 1),))), (0, 2, (1, ())), (1, 2, (1, (("y", 4),))))
        self.assert_program(("or", "x", "y"), 5, 3, edges)
        edges = ((0, 1, (1, (("x", 1),))), (0, 2, (1, ())), (1, 2, (1, (("y", 1),))))
        self.assert_program(("or", "x", "y"), 2, 3, edges)
        edges = ((0, 1, (4, ())), (0, 2, (1, ())), (1, 2, (1, (("y", 4),))))
        self.assert_program(("or", 0, "y"), 5, 3, edges)
        edges = ((0, 2, (1, ())), (1, 2, (1, (("y", 4),))))
        self.assert_program(("or", 1, "y"), 5, 3, edges)
        edges = ((0, 1, (4, (("x", 1),))), (0, 2, (1, ())))
        self.assert_program(("or", "x", 1), 5, 3, edges)

    def test_like_the_negated_product_of_negations(self):
        for modulus in (2, 3, 6):
            for e, f in itertools.product((0, 1, "x", ("and", "x", "y"), ("not", "y")), repeat=2):
                self.assertEqual(
                    compile_formula(("or", e, f), modulus),
                    compile_formula(("not", ("times", ("not", e), ("not", f))), modulus),
                )


class AllRules(CompileTest):
    def test_against_an_independent_reading(self):
        shallow = shallow_formulas((0, 1, "x", "y"))
        deeper = list(paired(shallow))
        for modulus in (2, 3, 4, 7):
            for formula in (*shallow, *deeper):
                self.assert_as_expected(formula, modulus)
        for modulus in (2, 3, 10):
            for formula in paired(deeper):
                if formula_error(formula, modulus) is None:
                    self.assert_as_expected(formula, modulus)

    def test_all_words(self):
        for modulus in (2, 3, 6, 7, 1000):
            self.assert_as_expected(ALL_WORDS, modulus)
            for word in WORDS:
                self.assert_as_expected((word, ("not", ALL_WORDS), ("minus", "g", 1)), modulus)
                self.assert_as_expected((word, ("minus", 1, "g"), ALL_WORDS), modulus)

    def test_8_leaves(self):
        leaves = ("h", "g", "f", "e", "d", "c", "b", "a")
        product = tuple((at, at + 1, (0, ((name, 1),))) for at, name in enumerate(leaves))
        self.assert_program(chain("times", leaves), 5, 9, product)
        total = (0, tuple((name, 1) for name in sorted(leaves)))
        self.assert_program(chain("plus", leaves), 5, 2, ((0, 1, total),))
        for word in WORDS:
            for modulus in (2, 5, 6):
                self.assert_as_expected(chain(word, leaves), modulus)
        eight = "x"
        for word in ("times", "plus", "or"):
            eight = (word, eight, eight)
        self.assert_as_expected(eight, 4)

    def test_16_tuples(self):
        negated = tuple(("not", name) for name in ("a", "b", "c", "d", "a", "b", "c"))
        formula = ("not", ("not", chain("or", (*negated, "d"))))
        self.assertIsNone(formula_error(formula, 3))
        self.assertEqual(formula_error(("not", formula), 3), ("size", ()))
        for modulus in (2, 3, 10):
            self.assert_as_expected(formula, modulus)

    def test_12_levels(self):
        for depth in range(13):
            self.assert_as_expected(nested_not(depth, "x"), 5)
        leaves = ("a", "b", "c", "d", "e", "f", "g", nested_not(5, "h"))
        for word in WORDS:
            self.assert_as_expected(chain(word, leaves), 5)


class Answers(CompileTest):
    def test_all_assignments(self):
        shallow = shallow_formulas((0, 1, "x", "y"))
        for modulus in (2, 3, 4, 6):
            assignments = [
                {"x": x, "y": y} for x, y in itertools.product(range(modulus), repeat=2)
            ]
            for formula in (*shallow, *paired(shallow)):
                self.assert_answers(formula, modulus, assignments)

    def test_all_words(self):
        names = formula_variables(ALL_WORDS)
        for modulus in (2, 3, 7, 10, 997, 1000):
            assignments = [
                {name: (at * at * step + 5 * step + at) % modulus for at, name in enumerate(names)}
                for step in range(30)
            ]
            self.assert_answers(ALL_WORDS, modulus, assignments)

    def test_chains(self):
        leaves = ("a", "b", 3, "c", "a", 1, "b", ("not", "d"))
        for word in WORDS:
            for modulus in (4, 5, 6, 997):
                assignments = [
                    {"a": step, "b": 2 * step % modulus, "c": modulus - 1, "d": step * step % modulus}
                    for step in range(4)
                ]
                self.assert_answers(chain(word, leaves), modulus, assignments)


class BeyondTheLimits(CompileTest):
    def test_modulus_above_1000(self):
        for modulus in (1001, 1009, 10**6 + 3):
            self.assert_as_expected(ALL_WORDS, modulus)
            names = formula_variables(ALL_WORDS)
            assignment = {name: modulus - 3 * at - 1 for at, name in enumerate(names)}
            self.assert_answers(ALL_WORDS, modulus, [assignment])

    def test_modulus_1(self):
        self.assert_program("x", 1, 2, ())
        self.assert_program(("not", ("and", "x", "y")), 1, 3, ())
        self.assert_answers(ALL_WORDS, 1, [{name: 0 for name in "abcdef"}])


class VariablesOfPrograms(CompileTest):
    def assert_variables(self, formula, modulus, expected):
        self.assertEqual(compile_formula(formula, modulus).program_variables(), expected)

    def test_that_the_program_uses(self):
        self.assert_variables(ALL_WORDS, 5, ("a", "b", "c", "d", "e", "f"))
        self.assert_variables(("times", 0, "x"), 5, ("x",))

    def test_that_the_program_does_not_use(self):
        self.assert_variables(("minus", "x", "x"), 5, ())
        self.assert_variables(("plus", "x", "x"), 2, ())
        self.assert_variables(("plus", ("minus", "x", "x"), "y"), 5, ("y",))
        self.assertEqual(compile_formula(("minus", "x", "x"), 5).result({}), 0)


class InvalidFormulas(CompileTest):
    def assert_reason(self, value, modulus, reason):
        with self.assertRaises(InvalidFormula) as caught:
            compile_formula(value, modulus)
        self.assertEqual(caught.exception.reason, reason)
        self.assertEqual(formula_error(value, modulus), reason)

    def test_form(self):
        for value in (None, True, False, -1, 5, 10**59, "", "X", "abcdefg", [], {}, (), ["x"]):
            self.assert_reason(value, 5, ("form", ()))
            self.assert_reason(("plus", "x", value), 5, ("form", (2,)))
            self.assert_reason(("not", ("or", value, value)), 5, ("form", (1, 1)))
        for value in (("plus", "x"), ("not", "x", "y"), ("nor", "x", "y"), (1, "x", "y")):
            self.assert_reason(value, 5, ("form", ()))

    def test_example_of_formula_error(self):
        self.assert_reason(("plus", "x", ("not", 5)), 5, ("form", (2, 1)))
        self.assert_program(("plus", "x", ("not", 5)), 6, 2, ((0, 1, (2, (("x", 1),))),))

    def test_size(self):
        self.assert_reason(chain("plus", ("x",) * 9), 5, ("size", ()))
        self.assert_reason(nested_not(13, "x"), 5, ("size", ()))
        six_more = ("not", ("not", ("not", ("not", ("not", "x")))))
        self.assert_reason(("plus", ("plus", six_more, six_more), six_more), 5, ("size", ()))

    def test_form_before_size(self):
        self.assert_reason(chain("plus", ("x",) * 9 + (5,)), 5, ("form", (2,) * 9))

    def test_it_is_a_value_error(self):
        with self.assertRaises(ValueError):
            compile_formula(None, 5)


if __name__ == "__main__":
    unittest.main()
