"""Tests over the whole program: points 1 to 3, and the interface as a whole."""

import copy
import importlib
import inspect
import itertools
import unittest

from maskedlist.analysis import analyze
from maskedlist.console import Console
from maskedlist.encoding import Encoding
from maskedlist.formats import format_assignment, format_formula, parse_assignment, parse_formula
from maskedlist.formulas import evaluate_formula, formula_error, formula_variables
from maskedlist.masked import decode_masked, mask_coin_count, masked_list
from maskedlist.masks import matrix_answer, program_matrix
from maskedlist.parties import Referee, message_of
from maskedlist.programs import BranchingProgram, compile_formula
from maskedlist.sessions import Session, explain_transcript, run_strategy

SUM = ("plus", "x", "y")
PRODUCT = ("times", "x", "y")
FORMULAS = (
    0, 1, "x", SUM, PRODUCT, ("minus", "x", "y"), ("not", "x"), ("or", "x", "y"), ("not", 1),
    ("and", "x", ("not", "y")), ("minus", "x", "x"), ("times", ("plus", "x", 1), ("minus", "y", "a")),
    ("plus", ("minus", "b", "b"), PRODUCT), ("or", ("and", "a", "b"), ("times", "x", ("or", "y", 0))),
    ("plus", ("times", "a", ("plus", "b", "c")), ("minus", ("times", "x", "y"), ("not", ("or", 1, "a")))),
    ("times", "a", ("times", "b", ("times", "c", ("times", "d", ("times", "e", ("times", "f",
     ("times", "g", "h"))))))),
    ("not", ("not", ("not", ("not", ("not", ("not", ("not", ("not", ("not", ("not", ("not", ("not",
     "x")))))))))))),
)
MODULI = (2, 3, 4, 6, 7, 100, 997, 1000)
# Each name of the interface with its parameters; those of classes and methods, too.
INTERFACE = {
    "matrices": {
        "multiply_matrices": "one other modulus", "identity_matrix": "size",
        "invert_unitriangular": "matrix modulus",
    },
    "formulas": {
        "formula_error": "value modulus", "formula_variables": "formula",
        "evaluate_formula": "formula modulus assignment",
    },
    "programs": {
        "BranchingProgram": "modulus nodes edges", "BranchingProgram.node_values": "assignment",
        "BranchingProgram.result": "assignment", "BranchingProgram.program_variables": "",
        "compile_formula": "formula modulus",
    },
    "masks": {
        "program_matrix": "program assignment", "matrix_answer": "matrix modulus",
        "node_column": "matrix modulus", "apply_mask": "matrix mask modulus",
        "mask_between": "one other modulus",
    },
    "masked": {
        "mask_coin_count": "program", "masked_list": "program assignment coins",
        "decode_masked": "program residues", "mask_coins_for": "program assignment residues",
    },
    "cells": {
        "polynomial_error": "value modulus coin_count",
        "evaluate_polynomial": "polynomial modulus assignment coins", "cells_of": "polynomial",
    },
    "encoding": {
        "Encoding": "formula modulus", "Encoding.coin_count": "", "Encoding.polynomials": "",
        "Encoding.list_for": "assignment coins", "Encoding.answer_from": "residues",
        "Encoding.coins_for": "assignment residues",
        "Encoding.moved_coins": "assignment other coins", "Encoding.simulate": "answer coins",
        "Encoding.simulator_coins": "assignment coins",
    },
    "analysis": {
        "analyze": "polynomials modulus coin_count formula",
        "evidence_holds": "polynomials modulus coin_count formula verdict evidence",
    },
    "parties": {
        "piece_owners": "encoding owners", "message_of": "encoding owners party assignment coins",
        "Referee": "encoding owners parties", "Referee.receive": "party message",
        "Referee.missing": "", "Referee.residues": "", "Referee.answer": "",
    },
    "sessions": {
        "Session": "modulus assignments tape", "Session.define": "name formula",
        "Session.request": "name", "Session.save": "", "Session.restore": "number",
        "Session.transcript": "", "Session.left": "", "Session.defined": "",
        "run_strategy": "session strategy steps",
        "explain_transcript": "modulus transcript assignments",
    },
    "formats": {
        "format_formula": "formula", "format_residues": "residues",
        "format_assignment": "assignment", "parse_formula": "text modulus",
        "parse_residues": "text modulus", "parse_assignment": "text modulus",
    },
    "console": {"Console": "modulus assignments tape", "Console.execute": "command"},
    "errors": {
        "InvalidFormula": "reason", "InvalidProgram": "position", "WrongLength": "expected",
        "DifferentAnswers": "listed own", "ParseError": "position", "MissingVariable": "name",
        "UnknownParty": "party", "UnknownCheckpoint": "number", "MessageRefused": "party",
        "IncompleteMessages": "parties", "LimitExceeded": "limit",
    },
}
LENGTHS = ("programs.BranchingProgram", "encoding.Encoding", "parties.Referee", "sessions.Session")


def some_residues(count, modulus, seed):
    """Numbers that look different for each seed, the same in each run."""
    numbers = [(at + 5) ** 3 * 13 + 29 * seed * (at + 2) + seed ** 3 for at in range(count)]
    return tuple(number // 7 % modulus for number in numbers)


def some_assignment(formula, modulus, seed):
    names = formula_variables(formula)
    return dict(zip(names, some_residues(len(names), modulus, seed + 50), strict=True))


# Calls for the interface: the function or the method of a new object, and its arguments.

MATRIX = ((1, 2), (0, 1))
SHAPED = ((2, 0), (2, 2))
POINT = {"x": 1, "y": 1}
OWNERS = {"x": 0, "y": 1}
TRANSCRIPT = (("refused", "g", "name"), ("answered", SUM, (1, 0, 0, 1)))
HIDDEN = (((1, (("input", "x"),)), (1, (("coin", 0),))),)
EVIDENCE = (((0,), (((0,), (0,)), ((1,), (1,)))), ((1,), (((0,), (1,)), ((1,), (0,)))))


def filled_session():
    session = Session(2, (POINT,), (0, 1, 0, 1, 1, 1))
    session.define("f", SUM)
    session.save()
    return session


def filled_referee():
    referee = Referee(Encoding(SUM, 2), OWNERS, 2)
    referee.receive(1, (0,))
    return referee


def actions():
    waiting = [("request", "f"), ("define", "g", PRODUCT), ("request", "g"), ("stop",)]
    return lambda transcript: waiting.pop(0)


OBJECTS = {
    "BranchingProgram": lambda: compile_formula(PRODUCT, 3),
    "Encoding": lambda: Encoding(SUM, 2),
    "Referee": filled_referee,
    "Session": filled_session,
    "Console": lambda: Console(2, (POINT,), (0, 1, 0)),
}
VALUES = {
    "multiply_matrices": lambda: (MATRIX, SHAPED, 3),
    "identity_matrix": lambda: (3,),
    "invert_unitriangular": lambda: (MATRIX, 3),
    "formula_error": lambda: (("plus", "x", ("not", 5)), 5),
    "formula_variables": lambda: (SUM,),
    "evaluate_formula": lambda: (SUM, 5, {"x": 3, "y": 4}),
    "BranchingProgram": lambda: (5, 3, ((0, 1, (0, (("x", 1),))), (1, 2, (2, ())))),
    "BranchingProgram.node_values": lambda: ({"x": 2, "y": 2},),
    "BranchingProgram.result": lambda: ({"x": 2, "y": 2},),
    "compile_formula": lambda: (("or", "x", 3), 5),
    "program_matrix": lambda: (compile_formula(PRODUCT, 3), {"x": 2, "y": 2}),
    "matrix_answer": lambda: (SHAPED, 3),
    "node_column": lambda: (SHAPED, 3),
    "apply_mask": lambda: (SHAPED, (MATRIX, (2,)), 3),
    "mask_between": lambda: (SHAPED, ((0, 1), (2, 0)), 3),
    "mask_coin_count": lambda: (compile_formula(PRODUCT, 3),),
    "masked_list": lambda: (compile_formula(PRODUCT, 3), {"x": 2, "y": 2}, (2, 2)),
    "decode_masked": lambda: (compile_formula(PRODUCT, 3), (0, 1, 0)),
    "mask_coins_for": lambda: (compile_formula(PRODUCT, 3), POINT, (0, 1, 0)),
    "polynomial_error": lambda: (((1, ()), (1, (("coin", 2),))), 3, 2),
    "evaluate_polynomial": lambda: (((2, (("input", "x"), ("coin", 0))),), 7, {"x": 3}, (4,)),
    "cells_of": lambda: (((2, (("input", "x"), ("coin", 0))),),),
    "Encoding": lambda: (PRODUCT, 3),
    "Encoding.list_for": lambda: (POINT, (0, 1, 0)),
    "Encoding.answer_from": lambda: ((1, 0, 1, 1),),
    "Encoding.coins_for": lambda: ({"x": 0, "y": 0}, (1, 0, 0, 1)),
    "Encoding.moved_coins": lambda: (POINT, {"x": 0, "y": 0}, (0, 1, 0)),
    "Encoding.simulate": lambda: (0, (1, 0, 1)),
    "Encoding.simulator_coins": lambda: (POINT, (0, 1, 0)),
    "analyze": lambda: (HIDDEN, 2, 1, 0),
    "evidence_holds": lambda: (HIDDEN, 2, 1, 0, "private", EVIDENCE),
    "piece_owners": lambda: (Encoding(SUM, 2), OWNERS),
    "message_of": lambda: (Encoding(SUM, 2), OWNERS, 1, {"y": 1}, (0, 1, 0)),
    "Referee": lambda: (Encoding(SUM, 2), OWNERS, 3),
    "Referee.receive": lambda: (0, (1, 0, 1)),
    "Session": lambda: (2, (POINT,), (0, 1, 0, 1)),
    "Session.define": lambda: ("g", PRODUCT),
    "Session.request": lambda: ("f",),
    "Session.restore": lambda: (0,),
    "run_strategy": lambda: (filled_session(), actions(), 6),
    "explain_transcript": lambda: (2, TRANSCRIPT, ({"x": 0, "y": 0},)),
    "format_formula": lambda: (PRODUCT,),
    "format_residues": lambda: ((1, 0, 3),),
    "format_assignment": lambda: ({"y": 0, "x": 1},),
    "parse_formula": lambda: ("times(x,plus(y,1))", 5),
    "parse_residues": lambda: ("1 0 3", 5),
    "parse_assignment": lambda: ("x=1 y=0", 5),
    "Console": lambda: (2, (POINT,), (0, 1, 0)),
    "Console.execute": lambda: ("define f plus(x,y)",),
}


def shown(value):
    """A value as plain lists, so that objects of the package can be compared."""
    if isinstance(value, (list, tuple)):
        return [type(value).__name__, *[shown(part) for part in value]]
    if isinstance(value, dict):
        return ["dict", *[(key, shown(part)) for key, part in value.items()]]
    if type(value).__module__.startswith("maskedlist"):
        return [type(value).__name__, shown(vars(value))]
    if callable(value):
        return ["function"]
    return [type(value).__name__, value]


class Interface(unittest.TestCase):
    def calls(self):
        """Each callable of the interface with its parameters, and how to get it anew."""
        for module_name, entries in INTERFACE.items():
            module = importlib.import_module(f"maskedlist.{module_name}")
            for name, parameters in entries.items():
                if "." in name:
                    class_name, method = name.split(".")
                    made = OBJECTS[class_name]
                    fresh = lambda made=made, method=method: getattr(made(), method)
                else:
                    fresh = lambda module=module, name=name: getattr(module, name)
                yield module_name, name, parameters.split(), fresh

    def test_names_and_parameters(self):
        for module_name, name, parameters, fresh in self.calls():
            with self.subTest(name):
                found = fresh()
                self.assertEqual(list(inspect.signature(found).parameters), parameters)
                self.assertEqual(found.__module__, f"maskedlist.{module_name}")

    def test_methods_stand_in_their_classes(self):
        for module_name, entries in INTERFACE.items():
            module = importlib.import_module(f"maskedlist.{module_name}")
            for name in entries:
                if "." in name:
                    class_name, method = name.split(".")
                    self.assertIn(method, vars(getattr(module, class_name)))
        for path in LENGTHS:
            module_name, class_name = path.split(".")
            module = importlib.import_module(f"maskedlist.{module_name}")
            self.assertIn("__len__", vars(getattr(module, class_name)))
        self.assertIn("__eq__", vars(BranchingProgram))

    def test_keywords_in_any_order(self):
        for module_name, name, parameters, fresh in self.calls():
            if module_name == "errors" or not parameters:
                continue
            target = fresh()
            values = VALUES[name]()
            expected = shown((target(*values), values, getattr(target, "__self__", None)))
            for order in itertools.permutations(parameters):
                with self.subTest(name, order=order):
                    target = fresh()
                    values = VALUES[name]()
                    named = dict(zip(parameters, values, strict=True))
                    found = target(**{parameter: named[parameter] for parameter in order})
                    own = getattr(target, "__self__", None)
                    self.assertEqual(shown((found, values, own)), expected)

    def test_keywords_of_errors(self):
        module = importlib.import_module("maskedlist.errors")
        for name, parameters in INTERFACE["errors"].items():
            for order in itertools.permutations(parameters.split()):
                error = getattr(module, name)(**{parameter: parameter for parameter in order})
                self.assertEqual(vars(error), {parameter: parameter for parameter in order})

    def test_arguments_stay_the_same(self):
        for module_name, name, parameters, fresh in self.calls():
            # A run is asked to change its session.
            if module_name == "errors" or not parameters or name == "run_strategy":
                continue
            with self.subTest(name):
                values = VALUES[name]()
                before = shown(values)
                fresh()(*values)
                self.assertEqual(shown(values), before)

    def test_results_depend_on_nothing_but_the_arguments(self):
        for module_name, name, _, fresh in self.calls():
            if module_name != "errors":
                values = VALUES.get(name, tuple)
                if name in ("Referee.residues", "Referee.answer"):
                    continue
                with self.subTest(name):
                    first = shown(fresh()(*values()))
                    self.assertEqual(shown(fresh()(*values())), first)


class Agreement(unittest.TestCase):
    def test_all_answers_are_equal(self):
        for formula, modulus, seed in itertools.product(FORMULAS, MODULI, range(2)):
            with self.subTest(formula=formula, modulus=modulus, seed=seed):
                self.assertIsNone(formula_error(formula, modulus))
                assignment = some_assignment(formula, modulus, seed)
                answer = evaluate_formula(formula, modulus, assignment)
                found = self.answers(formula, modulus, assignment, seed)
                self.assertEqual(found, [answer] * len(found))

    def answers(self, formula, modulus, assignment, seed):
        program = compile_formula(formula, modulus)
        mask_coins = some_residues(mask_coin_count(program), modulus, seed)
        encoding = Encoding(formula, modulus)
        coins = some_residues(encoding.coin_count(), modulus, seed + 1)
        referee = Referee(encoding, {name: at % 3 for at, name in enumerate(assignment)}, 3)
        for party in (2, 0, 1):
            owners = {name: at % 3 for at, name in enumerate(assignment)}
            own = {name: assignment[name] for name in owners if owners[name] == party}
            referee.receive(party, message_of(encoding, owners, party, own, coins))
        session = Session(modulus, (assignment,), coins)
        session.define("f", formula)
        console = Console(modulus, (assignment,), coins)
        console.execute(f"define f {format_formula(formula)}")
        console.execute("request f")
        text = f"explain {format_assignment(assignment)}"
        self.assertEqual(console.execute(text), " ".join(map(str, coins)) or "-")
        return [
            program.result(assignment),
            program.node_values(assignment)[0],
            matrix_answer(program_matrix(program, assignment), modulus),
            decode_masked(program, masked_list(program, assignment, mask_coins)),
            encoding.answer_from(encoding.list_for(assignment, coins)),
            referee.answer(),
            encoding.answer_from(session.request("f")[2]),
            int(console.execute("answer 0")),
            evaluate_formula(
                parse_formula(format_formula(formula), modulus), modulus,
                parse_assignment(format_assignment(assignment), modulus),
            ),
        ]

    def test_lists_are_equal_wherever_they_are_made(self):
        for formula, modulus in itertools.product(FORMULAS, MODULI):
            assignment = some_assignment(formula, modulus, 3)
            encoding = Encoding(formula, modulus)
            coins = some_residues(encoding.coin_count(), modulus, 4)
            residues = encoding.list_for(assignment, coins)
            session = Session(modulus, (assignment,), coins)
            session.define("f", formula)
            self.assertEqual(session.request("f"), ("answered", formula, residues))
            moved = encoding.simulator_coins(assignment, coins)
            answer = evaluate_formula(formula, modulus, assignment)
            self.assertEqual(encoding.simulate(answer, moved), residues)
            console = Console(modulus, (assignment,), coins)
            console.execute(f"define f {format_formula(formula)}")
            self.assertEqual(console.execute("request f"), " ".join(map(str, residues)) or "-")


class MainGuarantee(unittest.TestCase):
    def test_the_analyzer_agrees(self):
        for formula, modulus in (
            (0, 2), ("x", 5), (SUM, 2), (SUM, 3), (("minus", "x", "y"), 4), (("times", 0, 0), 5),
            (("plus", "x", ("plus", "y", 1)), 2), (("times", "x", 0), 2), (("minus", "x", "x"), 6),
        ):
            encoding = Encoding(formula, modulus)
            verdict, evidence = analyze(
                encoding.polynomials(), modulus, encoding.coin_count(), formula
            )
            self.assertEqual(verdict, "private")
            names = formula_variables(formula)
            for point, rows in evidence:
                assignment = dict(zip(names, point, strict=True))
                for residues, coins in rows:
                    self.assertEqual(encoding.list_for(assignment, coins), residues)
                    self.assertEqual(encoding.coins_for(assignment, residues), coins)

    def test_a_session_for_all_assignments_with_its_answers(self):
        # What the strategy asks depends on everything that it has seen.
        def strategy(transcript):
            seen = sum(sum(entry[2]) for entry in transcript if entry[0] == "answered")
            if len(transcript) == 3:
                return ("stop",)
            return ("request", "fgh"[seen % 3])

        points = [{"x": x, "y": y} for x, y in itertools.product(range(3), repeat=2)]
        for seed, assignments in enumerate(itertools.product(points[::2], repeat=2)):
            tape = some_residues(16, 3, seed)
            session = self.run_of(strategy, assignments, tape)
            transcript = session.transcript()
            answered = [entry for entry in transcript if entry[0] == "answered"]
            self.assertGreater(len(answered), 0)
            others = tuple(
                self.other_point(points, formula, assignments[min(at, 1)], seed)
                for at, (_, formula, _) in enumerate(answered)
            )
            verdict, coins = explain_transcript(3, transcript, others)
            self.assertEqual((verdict, len(coins)), ("coins", 16 - session.left()))
            again = self.run_of(strategy, others, coins + tape[len(coins):])
            self.assertEqual(again.transcript(), transcript)
            self.assertEqual(again.left(), session.left())

    def run_of(self, strategy, assignments, tape):
        session = Session(3, assignments, tape)
        for name, formula in (("f", SUM), ("g", ("times", "x", 0)), ("h", ("minus", "y", "x"))):
            session.define(name, formula)
        self.assertEqual(run_strategy(session, strategy, 9), 4)
        return session

    def other_point(self, points, formula, point, seed):
        answer = evaluate_formula(formula, 3, point)
        same = [other for other in points if evaluate_formula(formula, 3, other) == answer]
        return copy.deepcopy(same[seed % len(same)])


if __name__ == "__main__":
    unittest.main()
