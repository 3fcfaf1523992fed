"""Tests of maskedlist.analysis: point 15 and the interface's section on the analyzer."""

import copy
import inspect
import itertools
import unittest

from maskedlist import analysis
from maskedlist.analysis import MAX_ROWS, analyze, evidence_holds
from maskedlist.encoding import Encoding
from maskedlist.errors import LimitExceeded
from maskedlist.formulas import evaluate_formula, formula_variables

X = ("input", "x")
Y = ("input", "y")
C = [("coin", k) for k in range(12)]
ONLY_X = ((1, (X,)),)
ONLY_Y = ((1, (Y,)),)
HIDDEN = ((1, (X,)), (1, (C[0],)))
SUM = ("plus", "x", "y")
VERDICTS = ("ambiguous", "leaks", "private")
# Name, polynomials, modulus, number of coins, formula and the verdict.
TASKS = (
    ("a hidden input", (HIDDEN,), 2, 1, 0, "private"),
    ("a hidden input, three", (HIDDEN,), 3, 1, 2, "private"),
    ("a hidden input whose answer is asked", (HIDDEN,), 2, 1, "x", "ambiguous"),
    ("the input itself", (ONLY_X,), 5, 0, "x", "private"),
    ("the input itself, with coins", (ONLY_X,), 3, 2, "x", "private"),
    ("the input itself, not asked", (ONLY_X,), 2, 0, 1, "leaks"),
    ("the input itself, its product asked", (ONLY_X,), 6, 0, ("times", "x", 2), "leaks"),
    ("both inputs, the sum asked", (ONLY_X, ONLY_Y), 3, 0, SUM, "leaks"),
    ("one input, the sum asked", (ONLY_X,), 2, 0, SUM, "ambiguous"),
    ("the sum", (((1, (X,)), (1, (Y,))),), 5, 0, SUM, "private"),
    ("the sum, but its double asked", (((1, (X,)), (1, (Y,))),), 4, 0, ("plus", SUM, SUM), "leaks"),
    ("shares", (HIDDEN, ((1, (Y,)), (2, (C[0],)))), 3, 1, SUM, "private"),
    ("shares of another sum", (HIDDEN, ((1, (Y,)), (1, (C[0],)))), 3, 1, SUM, "ambiguous"),
    ("both verdicts apply", (((1, (X, Y)),),), 3, 0, ("times", "y", "y"), "ambiguous"),
    ("two lists in other numbers", (((1, (X, C[0])),),), 2, 1, 0, "leaks"),
    ("the numbers of a list differ", (((1, (X,)), (1, (X, C[0])), (1, (C[0],))),), 3, 1, 0, "leaks"),
    ("a factor that is no unit", (((1, (X, C[0])),),), 4, 1, "x", "ambiguous"),
    ("no polynomials", (), 3, 1, 2, "private"),
    ("no polynomials, an input asked", (), 3, 1, "x", "ambiguous"),
    ("no polynomials, a variable of no influence", (), 2, 2, ("minus", "x", "x"), "private"),
    ("nothing at all", (), 7, 0, 0, "private"),
    ("polynomials without terms", ((), ()), 2, 1, 1, "private"),
    ("no variables", (((1, (C[0],)), (1, ())), ((2, (C[1], C[0])),)), 3, 2, 1, "private"),
    ("variables in the formula alone", (((1, (C[0],)),),), 2, 1, "y", "ambiguous"),
    ("variables in the formula alone, one answer", (((1, (C[0],)),),), 3, 1, ("times", 0, "y"),
     "private"),
    ("variables in the polynomials alone", (HIDDEN, ((1, (Y,)), (1, (C[1],)))), 2, 2, 1, "private"),
    ("coins that are not used", (((1, (X,)), (1, (C[1],))),), 3, 3, 0, "private"),
    ("coins that are not used, a leak", (ONLY_X,), 3, 3, 0, "leaks"),
    ("four cells", (((1, (X, X, C[0], C[0])), (1, (C[1],))),), 3, 2, 0, "private"),
    ("an encoding", Encoding(SUM, 2).polynomials(), 2, 3, SUM, "private"),
    ("an encoding of a difference", Encoding(("minus", "x", "y"), 3).polynomials(), 3, 3,
     ("minus", "x", "y"), "private"),
    ("an encoding of a product with 0", Encoding(("times", "x", 0), 2).polynomials(), 2, 8,
     ("times", "x", 0), "private"),
    ("an encoding of 1024 rows", Encoding(SUM, 4).polynomials(), 4, 3, SUM, "private"),
    ("a piece of an encoding is missing", Encoding(SUM, 2).polynomials()[:3], 2, 3, SUM,
     "ambiguous"),
    ("an encoding of another formula", Encoding(SUM, 3).polynomials(), 3, 3, ("times", 0, SUM),
     "leaks"),
    ("names in another order", (((1, (("input", "b"),)), (1, (("input", "ab"),))),), 3, 0,
     ("minus", "a", "a"), "leaks"),
)


# A second reading of point 15: rows by name, all pairs of points.


def variables_of(polynomials, formula):
    names = set(formula_variables(formula))
    for polynomial in polynomials:
        for _, term_cells in polynomial:
            names.update(name for word, name in term_cells if word == "input")
    return sorted(names)


def value_at(polynomial, modulus, worth):
    total = 0
    for factor, term_cells in polynomial:
        for cell in term_cells:
            factor *= worth[cell]
        total += factor
    return total % modulus


def all_rows(polynomials, modulus, coin_count, formula):
    """A dict from the points, ascending, to their answers and their rows."""
    names = variables_of(polynomials, formula)
    table = {}
    for point in itertools.product(range(modulus), repeat=len(names)):
        worth = {("input", name): value for name, value in zip(names, point, strict=True)}
        rows = []
        for coins in itertools.product(range(modulus), repeat=coin_count):
            worth.update({("coin", k): coin for k, coin in enumerate(coins)})
            listed = tuple(value_at(polynomial, modulus, worth) for polynomial in polynomials)
            rows.append((listed, coins))
        assignment = dict(zip(names, point, strict=True))
        table[point] = (evaluate_formula(formula, modulus, assignment), tuple(sorted(rows)))
    return table


def lists_of(rows):
    return [listed for listed, _ in rows]


def expected_verdict(table):
    verdict = "private"
    for (answer, rows), (other_answer, other_rows) in itertools.combinations(table.values(), 2):
        if answer != other_answer:
            if set(lists_of(rows)) & set(lists_of(other_rows)):
                return "ambiguous"
        elif lists_of(rows) != lists_of(other_rows):
            verdict = "leaks"
    return verdict


def proves_ambiguity(table, point, coins, other, other_coins):
    listed = [at for at, vector in table[point][1] if vector == coins]
    other_listed = [at for at, vector in table[other][1] if vector == other_coins]
    return listed == other_listed and table[point][0] != table[other][0]


def proves_leak(table, point, rows, other, other_rows):
    if (rows, other_rows) != (table[point][1], table[other][1]):
        return False
    return table[point][0] == table[other][0] and lists_of(rows) != lists_of(other_rows)


class AnalysisTest(unittest.TestCase):
    def assert_limit(self, function, *arguments):
        with self.assertRaises(LimitExceeded) as caught:
            function(*arguments)
        self.assertEqual(caught.exception.limit, 1024)
        self.assertIsInstance(caught.exception, OverflowError)

    def assert_plain(self, value):
        """Nothing but tuples and integers that are no booleans."""
        if type(value) is tuple:
            for part in value:
                self.assert_plain(part)
        else:
            self.assertIs(type(value), int)

    def assert_holds(self, expected, *arguments):
        self.assertIs(evidence_holds(*arguments), expected)


class Interface(AnalysisTest):
    def test_names_and_parameters(self):
        self.assertEqual((type(MAX_ROWS), MAX_ROWS), (int, 1024))
        task = ["polynomials", "modulus", "coin_count", "formula"]
        expected = {"analyze": task, "evidence_holds": task + ["verdict", "evidence"]}
        for name, parameters in expected.items():
            function = getattr(analysis, name)
            self.assertEqual(function.__module__, "maskedlist.analysis")
            self.assertEqual(list(inspect.signature(function).parameters), parameters)

    def test_examples(self):
        polynomial = ((1, (("input", "x"),)), (1, (("coin", 0),)))
        self.assertEqual(analyze((polynomial,), 2, 1, 0)[0], "private")
        polynomial = ((1, (("input", "x"),)),)
        evidence = ((0,), (), (0,), ())
        self.assert_holds(False, (polynomial,), 2, 0, "x", "ambiguous", evidence)

    def test_keyword_arguments(self):
        for _, polynomials, modulus, coin_count, formula, verdict in TASKS[:12]:
            found = analyze(
                formula=formula, coin_count=coin_count, modulus=modulus, polynomials=polynomials
            )
            self.assertEqual(found, analyze(polynomials, modulus, coin_count, formula))
            for word in VERDICTS:
                holds = evidence_holds(
                    evidence=found[1], verdict=word, formula=formula, coin_count=coin_count,
                    modulus=modulus, polynomials=polynomials,
                )
                self.assertIs(holds, word == verdict)

    def test_arguments_stay_the_same(self):
        evidence = [({"a": [1]}, [((0,), (1,))], None), "x"]
        for _, polynomials, modulus, coin_count, formula, _ in TASKS[:12]:
            before = copy.deepcopy((polynomials, formula, evidence))
            analyze(polynomials, modulus, coin_count, formula)
            for word in VERDICTS:
                evidence_holds(polynomials, modulus, coin_count, formula, word, evidence)
                evidence_holds(polynomials, modulus, coin_count, formula, word, tuple(evidence * 2))
            self.assertEqual((polynomials, formula, evidence), before)


class Verdicts(AnalysisTest):
    def test_each_task(self):
        for name, *task, verdict in TASKS:
            with self.subTest(name):
                table = all_rows(*task)
                found = analyze(*task)
                self.assertIs(type(found), tuple)
                self.assertEqual((len(found), found[0]), (2, verdict))
                self.assertEqual(expected_verdict(table), verdict)
                self.assert_evidence(table, *found)

    def assert_evidence(self, table, verdict, evidence):
        self.assertIs(type(evidence), tuple)
        self.assert_plain(evidence)
        if verdict == "private":
            rows = tuple((point, rows) for point, (_, rows) in table.items())
            self.assertEqual(evidence, rows)
            return
        self.assertEqual(len(evidence), 4)
        self.assertIn(evidence[0], table)
        self.assertIn(evidence[2], table)
        proves = {"ambiguous": proves_ambiguity, "leaks": proves_leak}[verdict]
        self.assertTrue(proves(table, *evidence))

    def test_many_tasks(self):
        pool = (
            (1, (X,)), (1, (Y,)), (1, (C[0],)), (1, (C[1],)), (2, (X, C[0])), (1, (X, Y, C[1])),
            (2, (C[0], C[1])), (1, ()), (2, (X,)), (1, (Y, C[1], C[1])),
        )
        formulas = (0, "x", "y", SUM, ("times", "x", "y"), ("minus", "x", "x"), ("not", "y"))
        counts = dict.fromkeys(VERDICTS, 0)
        for seed in range(150):
            polynomials = tuple(
                tuple(pool[(seed * 7 + 3 * at + 5 * place * (seed % 4)) % len(pool)]
                      for place in range(1 + (seed + at) % 3))
                for at in range(1 + seed % 3)
            )
            task = (polynomials, 3, 2, formulas[seed % len(formulas)])
            table = all_rows(*task)
            verdict, evidence = analyze(*task)
            self.assertEqual(verdict, expected_verdict(table))
            self.assert_evidence(table, verdict, evidence)
            counts[verdict] += 1
            for word in VERDICTS:
                self.assert_holds(word == verdict, *task, word, evidence)
        self.assertGreater(min(counts.values()), 10)

    def test_evidence_written_out(self):
        self.assertEqual(
            analyze((HIDDEN,), 2, 1, 0),
            (
                "private",
                (
                    ((0,), (((0,), (0,)), ((1,), (1,)))),
                    ((1,), (((0,), (1,)), ((1,), (0,)))),
                ),
            ),
        )
        self.assertEqual(analyze((), 5, 0, 3), ("private", (((), (((), ()),)),)))
        verdict, evidence = analyze((ONLY_X,), 2, 0, 1)
        rows = {(0,): (((0,), ()),), (1,): (((1,), ()),)}
        self.assertEqual(verdict, "leaks")
        self.assertIn(evidence, [
            (point, rows[point], other, rows[other]) for point, other in (((0,), (1,)), ((1,), (0,)))
        ])
        verdict, evidence = analyze((), 2, 0, "x")
        self.assertEqual(verdict, "ambiguous")
        self.assertIn(evidence, [((0,), (), (1,), ()), ((1,), (), (0,), ())])

    def test_rows_are_ascending_by_list_then_coins(self):
        task = ((((2, (C[0],)), (1, (X,))),), 3, 2, 0)
        verdict, evidence = analyze(*task)
        self.assertEqual(verdict, "private")
        self.assertEqual(
            evidence[1],
            ((1,), (((0,), (1, 0)), ((0,), (1, 1)), ((0,), (1, 2)), ((1,), (0, 0)), ((1,), (0, 1)),
                    ((1,), (0, 2)), ((2,), (2, 0)), ((2,), (2, 1)), ((2,), (2, 2)))),
        )

    def test_variables_are_ascending(self):
        # The first value of a point is that of ab, then a's, then b's.
        polynomial = ((1, (("input", "b"),)),)
        evidence = analyze((polynomial,), 2, 0, ("plus", ("times", 0, "ab"), "a"))
        self.assertEqual(evidence[0], "ambiguous")
        point, _, other, _ = evidence[1]
        self.assertEqual((len(point), len(other)), (3, 3))
        self.assertNotEqual(point[0], other[0])
        self.assertEqual(point[2], other[2])

    def test_more_polynomials_than_promised(self):
        self.assertEqual(analyze((HIDDEN,) * 20, 2, 1, 0)[0], "private")
        self.assertEqual(analyze((HIDDEN * 10,) * 20, 3, 1, 0)[0], "private")


class Limit(AnalysisTest):
    # Modulus, variables, coins: exactly 1024 rows or fewer, and more.
    FITTING = ((2, 10, 0), (2, 0, 10), (2, 4, 6), (4, 2, 3), (32, 1, 1), (1000, 1, 0), (1000, 0, 1),
               (1024, 1, 0), (31, 2, 0), (10, 2, 1), (997, 0, 0), (3, 3, 3))
    TOO_LARGE = ((2, 11, 0), (2, 0, 11), (2, 5, 6), (4, 3, 3), (33, 1, 1), (1000, 1, 1), (3, 4, 3),
                 (1025, 1, 0), (1025, 0, 1), (2, 0, 12), (6, 0, 4), (1000, 0, 40))

    def task(self, modulus, variables, coins):
        names = ["abcdefghijklmno"[k] for k in range(variables)]
        return (tuple(((1, (("input", name),)),) for name in names), modulus, coins, 1)

    def test_tasks_that_fit(self):
        for numbers in self.FITTING:
            with self.subTest(numbers=numbers):
                task = self.task(*numbers)
                expected = "leaks" if numbers[1] > 0 else "private"
                verdict, evidence = analyze(*task)
                self.assertEqual(verdict, expected)
                for word in VERDICTS:
                    self.assert_holds(word == expected, *task, word, evidence)

    def test_tasks_that_are_too_large(self):
        for numbers in self.TOO_LARGE:
            with self.subTest(numbers=numbers):
                task = self.task(*numbers)
                self.assert_limit(analyze, *task)
                for word, evidence in itertools.product(VERDICTS, (
                    (), None, 1, "x", [], {}, ((0,), (), (1,), ()), (((), (((), ()),)),),
                    ((0,) * numbers[1], (0,) * numbers[2], (1,) * numbers[1], (0,) * numbers[2]),
                )):
                    self.assert_limit(evidence_holds, *task, word, evidence)

    def test_coins_count_that_no_polynomial_uses(self):
        self.assertEqual(analyze((), 2, 10, 0)[0], "private")
        self.assert_limit(analyze, (), 2, 11, 0)
        self.assert_limit(analyze, (ONLY_X,), 2, 10, "x")

    def test_each_variable_counts_once(self):
        self.assertEqual(analyze((ONLY_X, ONLY_X), 1000, 0, ("plus", "x", "x"))[0], "leaks")
        self.assertEqual(analyze((ONLY_X,), 32, 0, ("times", "x", "y"))[0], "ambiguous")
        self.assert_limit(analyze, (ONLY_X,), 33, 0, ("times", "x", "y"))
        self.assert_limit(analyze, (ONLY_Y,), 33, 0, ("minus", "x", "x"))

    def test_an_encoding_that_is_too_large(self):
        encoding = Encoding(("times", "x", "y"), 2)
        task = (encoding.polynomials(), 2, encoding.coin_count(), encoding.formula)
        self.assert_limit(analyze, *task)


class Evidence(AnalysisTest):
    def test_what_analyze_returns(self):
        for name, *task, verdict in TASKS:
            with self.subTest(name):
                evidence = analyze(*task)[1]
                for word in VERDICTS:
                    self.assert_holds(word == verdict, *task, word, evidence)

    def test_all_ambiguous_evidence_of_small_tasks(self):
        tasks = [task for _, *task, _ in TASKS if task[1] == 2 and task[2] < 3]
        tasks.append(((((1, (X, C[0])),),), 3, 1, "x"))
        for task in tasks:
            table = all_rows(*task)
            vectors = list(itertools.product(range(task[1]), repeat=task[2]))
            for evidence in itertools.product(table, vectors, table, vectors):
                expected = proves_ambiguity(table, *evidence)
                self.assert_holds(expected, *task, "ambiguous", evidence)
                self.assert_holds(False, *task, "private", evidence)

    def test_all_leaking_evidence_of_small_tasks(self):
        for name, *task, _ in TASKS:
            table = all_rows(*task)
            if len(table) > 9:
                continue
            with self.subTest(name):
                for one, other in itertools.product(table, repeat=2):
                    evidence = (one, table[one][1], other, table[other][1])
                    expected = proves_leak(table, *evidence)
                    self.assert_holds(expected, *task, "leaks", evidence)
                    exchanged = (one, table[other][1], other, table[one][1])
                    if table[one] != table[other]:
                        self.assert_holds(False, *task, "leaks", exchanged)

    def test_leaks_where_ambiguous_applies(self):
        # x y with the answer y y: (0, 1) and (1, 1) have the answer 1 and other lists.
        task = ((((1, (X, Y)),),), 3, 0, ("times", "y", "y"))
        self.assertEqual(analyze(*task)[0], "ambiguous")
        evidence = ((0, 1), (((0,), ()),), (1, 1), (((1,), ()),))
        self.assert_holds(True, *task, "leaks", evidence)
        self.assert_holds(True, *task, "leaks", evidence[2:] + evidence[:2])
        self.assert_holds(False, *task, "ambiguous", evidence)

    def test_private_where_another_verdict_applies(self):
        for name, *task, verdict in TASKS:
            with self.subTest(name):
                table = all_rows(*task)
                evidence = tuple((point, rows) for point, (_, rows) in table.items())
                self.assert_holds(verdict == "private", *task, "private", evidence)
                self.assert_holds(False, *task, "leaks", evidence)
                self.assert_holds(False, *task, "ambiguous", evidence)

    def test_any_value(self):
        deep = ()
        for _ in range(14):
            deep = (deep,)
        for name, *task, _ in TASKS:
            with self.subTest(name):
                for value in (
                    None, True, False, 0, 1, -1, 10 ** 59, "", "private", "leaks", "x" * 4, (), [],
                    {}, {"a": 1, "b": 2, "c": 3, "d": 4}, {0: 0}, (None,) * 4, (1, 2, 3, 4), "abcd",
                    ("a", "b", "c", "d"), ((), (), (), ()), ([], [], [], []), ({}, {}, {}, {}),
                    (True, False, True, False), deep, (deep,) * 4, (0,) * 9999, ((),) * 4,
                    ((0,), (0,), (1,), (0,), (0,)), ((0,), (0,), (1,)), [(0,), (0,), (1,), (0,)],
                    ((), ()), (((), ()),), ((((), ()),), (((), ()),)), ("00", "0", "11", "0"),
                ):
                    for word in VERDICTS:
                        self.assert_holds(False, *task, word, value)


class ChangedEvidence(AnalysisTest):
    """Evidence that is changed in one place no longer holds."""

    def changes(self, value):
        """Values that differ from a nested tuple in one place, in value or in kind."""
        if isinstance(value, int):
            yield from (value + 5, value - 9, None, str(value), (value,), [value], {}, "", ())
            if value in (0, 1):
                yield bool(value)
            return
        yield from (list(value), None, {}, "x", 0, True, dict(enumerate(value)), (value,))
        if value:
            yield from (value[1:], value[:-1], value + value[-1:], value[:1] + value, ())
        yield value + (0,)
        yield value + ((),)
        for at, part in enumerate(value):
            for changed in self.changes(part):
                yield value[:at] + (changed,) + value[at + 1:]
        for at, other in itertools.combinations(range(len(value)), 2):
            if value[at] != value[other]:
                swapped = list(value)
                swapped[at], swapped[other] = value[other], value[at]
                yield tuple(swapped)

    def assert_changes_fail(self, task, verdict, evidence, kept=()):
        self.assert_holds(True, *task, verdict, evidence)
        count = 0
        for changed in self.changes(evidence):
            with self.subTest(changed=changed):
                self.assert_holds(changed in kept, *task, verdict, changed)
            count += 1
        self.assertGreater(count, 50)

    def test_private(self):
        for task in (
            ((HIDDEN,), 2, 1, 0),
            ((HIDDEN, ((1, (Y,)), (2, (C[0],)))), 3, 1, SUM),
            ((ONLY_X,), 5, 0, "x"),
            ((), 2, 2, ("minus", "x", "x")),
            ((), 4, 0, 3),
        ):
            self.assert_changes_fail(task, "private", analyze(*task)[1])

    def test_leaks(self):
        # Rows of three points that all differ.
        task = ((((1, (X,)), (3, (C[0],))),), 3, 1, 1)
        table = all_rows(*task)
        evidence = ((0,), table[(0,)][1], (2,), table[(2,)][1])
        self.assert_changes_fail(task, "leaks", evidence)
        self.assert_holds(True, *task, "leaks", ((1,), table[(1,)][1], *evidence[2:]))
        self.assert_holds(True, *task, "leaks", evidence[2:] + evidence[:2])
        self.assert_holds(False, *task, "leaks", evidence[:2] + evidence[:2])

    def test_leaks_without_coins(self):
        task = ((ONLY_X, ONLY_Y), 5, 0, SUM)
        evidence = ((1, 2), (((1, 2), ()),), (3, 0), (((3, 0), ()),))
        self.assert_changes_fail(task, "leaks", evidence)
        other_answer = ((1, 2), (((1, 2), ()),), (3, 1), (((3, 1), ()),))
        self.assert_holds(False, *task, "leaks", other_answer)

    def test_ambiguous(self):
        task = ((((1, (X,)), (1, (C[0],)), (2, (C[1],))),), 5, 2, "x")
        evidence = ((1,), (2, 0), (3,), (0, 0))
        self.assert_changes_fail(task, "ambiguous", evidence)
        self.assert_holds(True, *task, "ambiguous", evidence[2:] + evidence[:2])
        self.assert_holds(True, *task, "ambiguous", ((1,), (0, 1), (3,), (0, 0)))
        self.assert_holds(False, *task, "ambiguous", ((3,), (2, 4), (3,), (0, 0)))

    def test_ambiguous_residues_beyond_the_modulus(self):
        # 6 and -4 are 1 modulo 5, but no residues.
        task = ((((1, (X,)), (1, (C[0],))),), 5, 1, "x")
        self.assert_holds(True, *task, "ambiguous", ((1,), (2,), (3,), (0,)))
        for wrong in (
            ((6,), (2,), (3,), (0,)), ((1,), (7,), (3,), (0,)), ((1,), (2,), (-2,), (0,)),
            ((1,), (2,), (3,), (5,)), ((1,), (2,), (3,), (-5,)), ((1,), (-3,), (3,), (0,)),
            ((True,), (2,), (3,), (0,)), ((1,), (2,), (3,), (False,)), ((1, 0), (2,), (3,), (0,)),
            ((1,), (2,), (3,), (0, 0)), ((), (2,), (3,), (0,)), ((1,), (), (3,), (0,)),
        ):
            self.assert_holds(False, *task, "ambiguous", wrong)


if __name__ == "__main__":
    unittest.main()
