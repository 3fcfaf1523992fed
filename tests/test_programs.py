"""Tests of BranchingProgram: point 6 and the interface's section on programs."""

import copy
import inspect
import itertools
import unittest

from maskedlist.errors import InvalidProgram, MissingVariable
from maskedlist.programs import BranchingProgram, compile_formula

ONE = (1, ())
X = (0, (("x", 1),))
BIG = 10**59
# Values of every kind, none of which is a tuple or an integer.
OTHER_KINDS = (None, True, False, "", "2", "x", [], [0, 1, ONE], {}, {0: 1})


def all_pairs(nodes):
    return tuple(itertools.combinations(range(nodes), 2))


def complete(nodes, form):
    return tuple((start, end, form) for start, end in all_pairs(nodes))


def form_value(form, assignment):
    constant, pairs = form
    total = constant
    for name, factor in pairs:
        total = total + factor * assignment[name]
    return total


def path_sum(edges, start, sink, assignment):
    """The sum over all paths of the products of the forms on them, path by path."""
    if start == sink:
        return 1
    total = 0
    for one, other, form in edges:
        if one == start:
            total = total + form_value(form, assignment) * path_sum(edges, other, sink, assignment)
    return total


def some_program(modulus, nodes, seed):
    """A program with some of the edges, the same in each run."""
    edges = []
    for start, end in all_pairs(nodes):
        mark = (13 * start + 29 * end + 7 * seed + start * end * seed) // 3
        names = [name for at, name in enumerate(("a", "ab", "b")) if (mark + at * seed) % 3 == 1]
        pairs = tuple((name, 1 + (mark + len(name)) % (modulus - 1)) for name in names)
        form = ((mark * 5 + seed) % modulus, pairs)
        if mark % 4 != 0 and form != (0, ()):
            edges.append((start, end, form))
    return BranchingProgram(modulus, nodes, tuple(edges))


class ProgramTest(unittest.TestCase):
    def assert_position(self, position, modulus, nodes, edges):
        with self.assertRaises(InvalidProgram) as caught:
            BranchingProgram(modulus, nodes, edges)
        self.assertEqual(caught.exception.position, position, (modulus, nodes, edges))
        self.assertIs(type(caught.exception.position), int)

    def assert_edge(self, edge, modulus=5, nodes=4):
        self.assertEqual(BranchingProgram(modulus, nodes, (edge,)).edges, (edge,))

    def assert_no_edge(self, edge, modulus=5, nodes=4):
        """The edge is invalid: alone, before and behind a valid one."""
        self.assert_position(0, modulus, nodes, (edge,))
        self.assert_position(0, modulus, nodes, (edge, (nodes - 2, nodes - 1, ONE)))
        self.assert_position(1, modulus, nodes, ((0, 1, ONE), edge))

    def assert_form(self, form, modulus=5):
        self.assert_edge((1, 2, form), modulus)

    def assert_no_form(self, form, modulus=5):
        self.assert_no_edge((1, 2, form), modulus)


class Interface(ProgramTest):
    def test_the_class_and_its_methods(self):
        self.assertEqual(BranchingProgram.__module__, "maskedlist.programs")
        expected = {
            "__init__": ["self", "modulus", "nodes", "edges"],
            "node_values": ["self", "assignment"],
            "result": ["self", "assignment"],
            "program_variables": ["self"],
        }
        for name, parameters in expected.items():
            method = vars(BranchingProgram)[name]
            self.assertEqual(list(inspect.signature(method).parameters), parameters)
        for name in ("__eq__", "__len__"):
            self.assertIn(name, vars(BranchingProgram))

    def test_keyword_arguments(self):
        edges = ((0, 1, X),)
        program = BranchingProgram(edges=edges, nodes=2, modulus=5)
        self.assertEqual(program, BranchingProgram(5, 2, edges))
        self.assertEqual(program.node_values(assignment={"x": 3}), program.node_values({"x": 3}))
        self.assertEqual(program.result(assignment={"x": 3}), program.result({"x": 3}))

    def test_arguments_stay_the_same(self):
        edges = [[0, 1, [3, [["x", 2]]]], None, {"x": [1]}]
        before = copy.deepcopy(edges)
        self.assert_position(0, 5, 2, (edges[0], edges))
        self.assert_position(-1, 5, 2, edges)
        self.assertEqual(edges, before)
        assignment = {"y": 3, "x": 2}
        program = BranchingProgram(5, 2, ((0, 1, X),))
        program.node_values(assignment)
        program.result(assignment)
        self.assertEqual(list(assignment.items()), [("y", 3), ("x", 2)])

    def test_the_assignment_is_not_kept(self):
        program = BranchingProgram(5, 2, ((0, 1, X),))
        assignment = {"x": 2}
        self.assertEqual(program.result(assignment), 2)
        assignment["x"] = 3
        self.assertEqual(program.result(assignment), 3)
        del assignment["x"]
        with self.assertRaises(MissingVariable):
            program.result(assignment)


class Fields(ProgramTest):
    def test_fields(self):
        edges = ((0, 1, X), (1, 2, (4, (("x", 1), ("y", 4)))))
        program = BranchingProgram(5, 3, edges)
        self.assertEqual((program.modulus, program.nodes, program.edges), (5, 3, edges))
        self.assertIs(type(program.nodes), int)
        self.assertIs(type(program.edges), tuple)

    def test_length(self):
        for nodes in range(2, 10):
            for edges in ((), ((0, 1, ONE),)):
                self.assertEqual(len(BranchingProgram(7, nodes, edges)), nodes)

    def test_fields_are_set_on_the_object(self):
        program = BranchingProgram(5, 2, ())
        self.assertLessEqual({"modulus", "nodes", "edges"}, set(vars(program)))


class NodeCounts(ProgramTest):
    def test_from_2_to_9(self):
        for nodes in range(2, 10):
            self.assertEqual(BranchingProgram(5, nodes, ()).nodes, nodes)

    def test_other_integers(self):
        for nodes in (1, 0, -1, -2, 10, 11, 100, BIG, -BIG):
            self.assert_position(-1, 5, nodes, ())

    def test_booleans(self):
        self.assert_position(-1, 5, True, ())
        self.assert_position(-1, 5, False, ())

    def test_other_kinds(self):
        for nodes in (*OTHER_KINDS, (), (2,), (2, 3)):
            self.assert_position(-1, 5, nodes, ())
            self.assert_position(-1, 5, nodes, ((0, 1, ONE),))

    def test_before_the_edges(self):
        for nodes in (1, 10, None):
            self.assert_position(-1, 5, nodes, (None,))
            self.assert_position(-1, 5, nodes, ((0, 1, (0, ())),))


class Edges(ProgramTest):
    def test_example(self):
        self.assert_position(0, 3, 2, ((0, 1, (0, ())),))

    def test_no_tuple(self):
        for edges in (*OTHER_KINDS, 0, 1, [(0, 1, ONE)], {(0, 1): ONE}, "abc"):
            self.assert_position(-1, 5, 2, edges)

    def test_all_edges(self):
        for nodes in range(2, 10):
            edges = complete(nodes, ONE)
            self.assertEqual(BranchingProgram(2, nodes, edges).edges, edges)

    def test_no_triple(self):
        for edge in (*OTHER_KINDS, 0, 7, BIG, "abc"):
            self.assert_no_edge(edge)
        for edge in ((), (0,), (0, 1), (1, 2), (1, 2, X, X), (1, 2, 0, ()), ((1, 2), X)):
            self.assert_no_edge(edge)
        self.assert_no_edge([1, 2, X])

    def test_node_numbers(self):
        for start, end in all_pairs(4):
            self.assert_edge((start, end, ONE))
        for start, end in itertools.product(range(-2, 7), repeat=2):
            if not 0 <= start < end < 4:
                self.assert_no_edge((start, end, ONE))
        self.assert_no_edge((0, BIG, ONE))
        self.assert_no_edge((-BIG, 1, ONE))

    def test_the_sink_is_the_last_node(self):
        for nodes in range(2, 10):
            self.assert_edge((0, nodes - 1, ONE), nodes=nodes)
            self.assert_position(0, 5, nodes, ((0, nodes, ONE),))

    def test_node_numbers_of_other_kinds(self):
        for wrong in (*OTHER_KINDS, (), (1,)):
            self.assert_no_edge((wrong, 2, ONE))
            self.assert_no_edge((1, wrong, ONE))
            self.assert_no_edge((wrong, wrong, ONE))
        self.assert_no_edge(("1", "2", ONE))
        self.assert_no_edge((False, True, ONE))
        self.assert_no_edge((0, True, ONE))

    def test_ascending(self):
        edges = complete(4, ONE)
        for chosen in itertools.permutations(edges, 2):
            if chosen[0] < chosen[1]:
                self.assertEqual(BranchingProgram(5, 4, chosen).edges, chosen)
            else:
                self.assert_position(1, 5, 4, chosen)

    def test_the_form_has_no_part_in_the_order(self):
        edges = ((0, 1, (4, ())), (0, 2, (0, (("x", 1),))), (1, 2, (0, (("a", 1),))))
        self.assertEqual(BranchingProgram(5, 3, edges).edges, edges)

    def test_repeated(self):
        self.assert_position(1, 5, 3, ((0, 1, ONE), (0, 1, ONE)))
        self.assert_position(1, 5, 3, ((0, 1, ONE), (0, 1, X)))
        self.assert_position(1, 5, 3, ((0, 1, X), (0, 1, ONE)))
        self.assert_position(2, 5, 3, ((0, 1, X), (1, 2, ONE), (1, 2, (2, ()))))
        self.assert_position(2, 5, 3, ((0, 1, X), (1, 2, ONE), (0, 1, X)))

    def test_the_first_of_several(self):
        good = complete(5, X)
        bad = (None, (1, 0, ONE), (3, 4, (0, ())), (0, 1), (3, 4, (5, ())), (3, 4, (0, (("x", 0),))))
        for position in range(len(good)):
            for one, other in itertools.product(bad, repeat=2):
                edges = (*good[:position], one, *good[position:], other)
                self.assert_position(position, 5, 5, edges)
        self.assert_position(2, 5, 5, (*good[1:3], good[0], None))
        self.assert_position(3, 5, 5, (*good[:3], good[2], good[1]))
        self.assert_position(1, 5, 5, (good[3], good[3], (0, ())))

    def test_many_invalid_edges(self):
        self.assert_position(0, 5, 9, (None,) * 9000)
        self.assert_position(1, 5, 9, ((0, 1, ONE),) * 2000)


class Forms(ProgramTest):
    def test_forms(self):
        for form in (ONE, (4, ()), X, (0, (("x", 4),)), (4, (("x", 4), ("y", 1)))):
            self.assert_form(form)
        self.assert_form((1, (("x", 1),)), modulus=2)
        self.assert_form((999, (("x", 999), ("xy", 1))), modulus=1000)

    def test_the_zero_form(self):
        self.assert_no_form((0, ()))
        self.assert_no_form((0, ()), modulus=2)

    def test_no_pair(self):
        for form in (*OTHER_KINDS, 0, 1, (), (1,), (1, (), ()), ((), 1), [1, ()], "ab"):
            self.assert_no_form(form)

    def test_constants(self):
        for modulus in (2, 3, 5, 10):
            for constant in range(-3, modulus + 4):
                if 0 <= constant < modulus:
                    self.assert_form((constant, (("x", 1),)), modulus)
                else:
                    self.assert_no_form((constant, (("x", 1),)), modulus)
                    self.assert_no_form((constant, ()), modulus)
        for constant in (*OTHER_KINDS, (), (1,), BIG):
            self.assert_no_form((constant, ()))
            self.assert_no_form((constant, (("x", 1),)))

    def test_no_tuple_of_pairs(self):
        for pairs in (*OTHER_KINDS, 0, 1, [("x", 1)], {"x": 1}, "x1", ("x", 1), "xy"):
            self.assert_no_form((1, pairs))
            self.assert_no_form((0, pairs))

    def test_no_pair_in_the_tuple(self):
        for pair in (*OTHER_KINDS, 0, 1, (), ("x",), ("x", 1, 1), (1, "x"), ["x", 1], "x1", "xy"):
            self.assert_no_form((1, (pair,)))
            self.assert_no_form((1, (("a", 1), pair)))
            self.assert_no_form((1, (pair, ("z", 1))))

    def test_coefficients(self):
        for modulus in (2, 3, 5, 10):
            for factor in range(-3, modulus + 4):
                if 1 <= factor < modulus:
                    self.assert_form((0, (("x", factor),)), modulus)
                else:
                    self.assert_no_form((1, (("x", factor),)), modulus)
                    self.assert_no_form((1, (("w", 1), ("x", factor))), modulus)
        for factor in (*OTHER_KINDS, (), (1,), BIG):
            self.assert_no_form((1, (("x", factor),)))

    def test_variables(self):
        for name in ("a", "z", "abcdef", "zzzzzz", "plus"):
            self.assert_form((0, ((name, 1),)))
        for name in ("", "abcdefg", "X", "x1", "x y", " ", "x ", "x\n", "\u00e9", "\uff41", "_"):
            self.assert_no_form((1, ((name, 1),)))
        for name in (None, True, 0, 1, (), ("x",), ["x"], {"x": 1}):
            self.assert_no_form((1, ((name, 1),)))

    def test_ascending_variables(self):
        names = ("a", "aa", "ab", "b", "ba")
        for chosen in itertools.permutations(names, 3):
            form = (2, tuple((name, 1) for name in chosen))
            if list(chosen) == sorted(chosen):
                self.assert_form(form)
            else:
                self.assert_no_form(form)
        self.assert_no_form((0, (("y", 1), ("x", 4))))

    def test_coefficients_have_no_part_in_the_order(self):
        self.assert_form((0, (("x", 4), ("y", 1), ("z", 2))))

    def test_repeated_variables(self):
        self.assert_no_form((0, (("x", 1), ("x", 1))))
        self.assert_no_form((0, (("x", 1), ("x", 2))))
        self.assert_no_form((0, (("x", 1), ("y", 2), ("y", 3))))
        self.assert_no_form((0, (("x", 1), ("y", 2), ("x", 3))))

    def test_many_variables(self):
        names = ["".join(letters) for letters in itertools.product("abcdefghij", repeat=3)]
        form = (0, tuple((name, 1) for name in names))
        self.assert_form(form)
        self.assert_no_form((0, (*form[1], ("j", 1))))


class Equality(ProgramTest):
    EDGES = ((0, 1, X), (0, 2, ONE), (1, 2, (2, (("x", 1), ("y", 2)))))

    def test_equal(self):
        program = BranchingProgram(5, 3, self.EDGES)
        self.assertTrue(program == program)
        self.assertTrue(program == BranchingProgram(5, 3, copy.deepcopy(self.EDGES)))
        self.assertFalse(program != BranchingProgram(5, 3, copy.deepcopy(self.EDGES)))
        self.assertTrue(BranchingProgram(2, 2, ()) == BranchingProgram(2, 2, ()))

    def test_another_modulus_or_number_of_nodes(self):
        program = BranchingProgram(5, 3, self.EDGES)
        for other in (BranchingProgram(7, 3, self.EDGES), BranchingProgram(5, 4, self.EDGES)):
            self.assertFalse(program == other)
            self.assertTrue(program != other)

    def test_other_edges(self):
        program = BranchingProgram(5, 3, self.EDGES)
        others = [self.EDGES[:2], self.EDGES[1:], ()]
        for position in range(3):
            start, end, form = self.EDGES[position]
            changed = (start, end, ((form[0] + 1) % 5, form[1]))
            others.append((*self.EDGES[:position], changed, *self.EDGES[position + 1:]))
        others.append((*self.EDGES[:2], (1, 2, (2, (("x", 1), ("z", 2))))))
        others.append((*self.EDGES[:2], (1, 2, (2, (("x", 1), ("y", 3))))))
        others.append((*self.EDGES[:2], (1, 2, (2, (("x", 1),)))))
        for edges in others:
            other = BranchingProgram(5, 3, edges)
            self.assertFalse(program == other)
            self.assertTrue(program != other)

    def test_the_same_value_is_not_enough(self):
        one = BranchingProgram(5, 3, ((0, 2, ONE),))
        self.assertFalse(one == BranchingProgram(5, 3, ((0, 1, ONE), (1, 2, ONE))))

    def test_other_values(self):
        program = BranchingProgram(5, 3, self.EDGES)
        as_tuple = (program.modulus, program.nodes, program.edges)

        class Alike:
            modulus, nodes, edges = as_tuple

        class Everything:
            def __eq__(self, other):
                return True

        others = (*OTHER_KINDS, 3, 5, self.EDGES, as_tuple, list(as_tuple), Alike(), Everything())
        for other in others:
            self.assertIs(program == other, False)
            self.assertIs(program != other, True)
        self.assertFalse((5, 3, self.EDGES) == program)


class Values(ProgramTest):
    def assert_values(self, program, assignment, expected):
        values = program.node_values(assignment)
        self.assertEqual(values, expected)
        self.assertIs(type(values), tuple)
        self.assertEqual(program.result(assignment), expected[0])
        self.assertIs(type(program.result(assignment)), int)

    def test_examples(self):
        program = BranchingProgram(5, 2, ((0, 1, (2, (("x", 3),))),))
        self.assertEqual(program.result({"x": 4}), 4)
        product = compile_formula(("times", "x", "y"), 5)
        self.assertEqual(product.node_values({"x": 2, "y": 3}), (1, 3, 1))

    def test_without_edges(self):
        for nodes in range(2, 10):
            program = BranchingProgram(5, nodes, ())
            self.assert_values(program, {}, (0,) * (nodes - 1) + (1,))

    def test_nodes_without_edges(self):
        program = BranchingProgram(7, 5, ((0, 4, (3, ())),))
        self.assert_values(program, {}, (3, 0, 0, 0, 1))
        program = BranchingProgram(7, 5, ((0, 2, (3, ())), (1, 4, (6, ())), (2, 4, (4, ()))))
        self.assert_values(program, {}, (5, 6, 4, 0, 1))

    def test_dead_ends(self):
        program = BranchingProgram(7, 4, ((0, 1, X), (0, 2, X), (2, 3, ONE)))
        self.assert_values(program, {"x": 4}, (4, 0, 1, 1))

    def test_parallel_paths(self):
        edges = (
            (0, 1, (2, ())),
            (0, 2, (0, (("x", 1),))),
            (0, 3, (5, ())),
            (1, 2, (3, (("y", 1),))),
            (1, 3, (0, (("x", 2), ("y", 9)))),
            (2, 3, (4, ())),
        )
        program = BranchingProgram(10, 4, edges)
        for x, y in itertools.product(range(10), repeat=2):
            first = (3 + y) * 4 + 2 * x + 9 * y
            expected = ((2 * first + x * 4 + 5) % 10, first % 10, 4, 1)
            self.assert_values(program, {"x": x, "y": y}, expected)

    def test_complete_programs(self):
        # With 1 on each edge the values count the paths: 1, 1, 2, 4, 8 ..
        for nodes in range(2, 10):
            counts = tuple(2 ** max(0, nodes - 2 - node) for node in range(nodes))
            self.assert_values(BranchingProgram(1000, nodes, complete(nodes, ONE)), {}, counts)

    def test_sums_over_paths(self):
        for modulus, nodes, seed in itertools.product((2, 3, 6, 11, 1000), range(2, 10), range(4)):
            with self.subTest(modulus=modulus, nodes=nodes, seed=seed):
                program = some_program(modulus, nodes, seed)
                names = program.program_variables()
                assignment = {name: 7 * len(name) + 5 * seed + ord(name[0]) for name in names}
                expected = tuple(
                    path_sum(program.edges, node, nodes - 1, assignment) % modulus
                    for node in range(nodes)
                )
                self.assert_values(program, assignment, expected)
                self.assertTrue(all(0 <= value < modulus for value in expected))

    def test_further_keys_are_ignored(self):
        program = BranchingProgram(5, 2, ((0, 1, X),))
        self.assert_values(program, {"a": 1, "x": 3, "xx": 4, "z": 2}, (3, 1))
        self.assert_values(BranchingProgram(5, 2, ()), {"x": 1}, (0, 1))

    def test_values_beyond_the_residues(self):
        program = BranchingProgram(5, 3, ((0, 1, X), (1, 2, (0, (("y", 4),)))))
        self.assert_values(program, {"x": 7, "y": -1}, (2, 1, 1))

    def test_modulus_beyond_1000(self):
        program = BranchingProgram(1003, 3, ((0, 1, (1002, ())), (1, 2, (1000, ()))))
        self.assert_values(program, {}, (3, 1000, 1))


class Variables(ProgramTest):
    def test_without_variables(self):
        self.assertEqual(BranchingProgram(5, 2, ()).program_variables(), ())
        self.assertEqual(BranchingProgram(5, 2, ((0, 1, ONE),)).program_variables(), ())

    def test_ascending_without_duplicates(self):
        edges = (
            (0, 1, (0, (("c", 1), ("x", 2)))),
            (0, 2, (0, (("aa", 1), ("b", 2), ("x", 3)))),
            (1, 2, (1, (("a", 1), ("c", 1)))),
        )
        variables = BranchingProgram(5, 3, edges).program_variables()
        self.assertEqual(variables, ("a", "aa", "b", "c", "x"))
        self.assertIs(type(variables), tuple)

    def test_also_on_edges_that_lead_nowhere(self):
        program = BranchingProgram(5, 4, ((0, 1, X), (2, 3, (0, (("a", 1),)))))
        self.assertEqual(program.program_variables(), ("a", "x"))

    def test_example(self):
        self.assertEqual(compile_formula(("times", "x", "y"), 5).program_variables(), ("x", "y"))


class MissingVariables(ProgramTest):
    EDGES = (
        (0, 1, (0, (("c", 1), ("d", 2)))),
        (0, 2, (0, (("b", 2),))),
        (1, 2, (1, (("a", 1),))),
    )

    def assert_missing(self, edges, assignment, name):
        program = BranchingProgram(5, 3, edges)
        for method in (program.node_values, program.result):
            with self.assertRaises(MissingVariable) as caught:
                method(assignment)
            self.assertEqual(caught.exception.name, name)

    def test_first_in_ascending_order(self):
        self.assert_missing(self.EDGES, {}, "a")
        self.assert_missing(self.EDGES, {"a": 1}, "b")
        self.assert_missing(self.EDGES, {"a": 1, "b": 0}, "c")
        self.assert_missing(self.EDGES, {"a": 1, "b": 0, "c": 4}, "d")
        self.assert_missing(self.EDGES, {"d": 1, "b": 0, "c": 4}, "a")
        self.assert_missing(self.EDGES, {"d": 1, "a": 0, "e": 4}, "b")

    def test_without_influence_on_the_value(self):
        self.assert_missing(((1, 2, X),), {}, "x")
        self.assert_missing(((0, 1, X),), {"y": 1}, "x")
        self.assert_missing(((0, 1, X), (0, 2, ONE)), {"X": 1}, "x")

    def test_zero_is_not_missing(self):
        program = BranchingProgram(5, 3, self.EDGES)
        self.assertEqual(program.result({"a": 0, "b": 0, "c": 0, "d": 0}), 0)

    def test_it_is_a_key_error(self):
        with self.assertRaises(KeyError):
            BranchingProgram(5, 2, ((0, 1, X),)).result({})


if __name__ == "__main__":
    unittest.main()
