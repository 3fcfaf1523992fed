"""The analyzer: whether lists of polynomials reveal the answer of a formula and nothing else."""

from maskedlist.cells import evaluate_polynomial, polynomial_variables
from maskedlist.errors import LimitExceeded
from maskedlist.formulas import evaluate_formula, formula_variables, is_integer, is_residue

MAX_ROWS = 1024


class Task:
    """Polynomials and a formula, at all values of their variables and coins."""

    def __init__(self, polynomials, modulus, coin_count, formula):
        names = [name for part in polynomials for name in polynomial_variables(part)]
        self.parts = polynomials
        self.modulus = modulus
        self.coin_total = coin_count
        self.formula = formula
        names.extend(formula_variables(formula))
        self.variables = tuple(sorted(set(names)))
        _require_few_rows(modulus, len(self.variables) + coin_count)

    def points(self):
        """Return the list of all points, ascending."""
        return _all_tuples(len(self.variables), self.modulus)

    def answer_at(self, point):
        """Return the answer of the formula at a point."""
        return evaluate_formula(self.formula, self.modulus, self._assignment(point))

    def list_at(self, point, coins):
        """Return the tuple of the values of the polynomials."""
        assignment = self._assignment(point)
        return tuple([
            evaluate_polynomial(part, self.modulus, assignment, coins)
            for part in self.parts
        ])

    def rows_at(self, point):
        """Return the tuple of the pairs (list, coins) of a point, ascending."""
        vectors = _all_tuples(self.coin_total, self.modulus)
        return tuple(sorted([(self.list_at(point, coins), coins) for coins in vectors]))

    def is_point(self, value):
        """Return whether any value is a point."""
        return _is_residues(value, len(self.variables), self.modulus)

    def is_coins(self, value):
        """Return whether any value is a coin vector."""
        return _is_residues(value, self.coin_total, self.modulus)

    def _assignment(self, point):
        return dict(zip(self.variables, point))


def _require_few_rows(modulus, exponent):
    """Raise LimitExceeded if modulus to this exponent is greater than MAX_ROWS."""
    rows = 1
    for _ in range(exponent):
        rows = rows * modulus
        # Tested at each step, so that no number becomes long.
        if rows > MAX_ROWS:
            raise LimitExceeded(MAX_ROWS)


def _all_tuples(length, modulus):
    """Return the list of all tuples of so many residues, ascending."""
    tuples = [()]
    for _ in range(length):
        tuples = [(*start, residue) for start in tuples for residue in range(modulus)]
    return tuples


def _is_residues(value, length, modulus):
    if not isinstance(value, tuple) or len(value) != length:
        return False
    return all([is_residue(part, modulus) for part in value])


def analyze(polynomials, modulus, coin_count, formula):
    """Return the pair (verdict, evidence) of a list of polynomials."""
    task = Task(polynomials, modulus, coin_count, formula)
    table = [(point, task.answer_at(point), task.rows_at(point)) for point in task.points()]
    evidence = _equal_lists(table)
    if evidence is not None:
        return ("ambiguous", evidence)
    evidence = _different_rows(table)
    if evidence is not None:
        return ("leaks", evidence)
    return ("private", tuple([(point, rows) for point, _, rows in table]))


def _equal_lists(table):
    """Return (point, coins, point, coins) with one list and two answers, or None."""
    firsts = {}
    for point, answer, rows in table:
        for listed, coins in rows:
            first = firsts.setdefault(listed, (answer, point, coins))
            if first[0] != answer:
                return (first[1], first[2], point, coins)
    return None


def _different_rows(table):
    """Return (point, rows, point, rows) with one answer and different lists, or None."""
    firsts = {}
    for point, answer, rows in table:
        first_point, first_rows = firsts.setdefault(answer, (point, rows))
        if _lists(first_rows) != _lists(rows):
            return (first_point, first_rows, point, rows)
    return None


def _lists(rows):
    return [listed for listed, _ in rows]


def evidence_holds(polynomials, modulus, coin_count, formula, verdict, evidence):
    """Return whether any value is correct evidence for this verdict."""
    task = Task(polynomials, modulus, coin_count, formula)
    if verdict == "private":
        # There is only one evidence for this verdict.
        found, expected = analyze(polynomials, modulus, coin_count, formula)
        return found == verdict and _is_same(evidence, expected)
    if not isinstance(evidence, tuple) or len(evidence) != 4:
        return False
    if not task.is_point(evidence[0]) or not task.is_point(evidence[2]):
        return False
    if verdict == "ambiguous":
        return _proves_ambiguity(task, evidence)
    return _proves_leak(task, evidence)


def _proves_ambiguity(task, evidence):
    point, coins, other, other_coins = evidence
    if not task.is_coins(coins) or not task.is_coins(other_coins):
        return False
    if task.answer_at(point) == task.answer_at(other):
        return False
    return task.list_at(point, coins) == task.list_at(other, other_coins)


def _proves_leak(task, evidence):
    point, rows, other, other_rows = evidence
    if not _is_same(rows, task.rows_at(point)) or not _is_same(other_rows, task.rows_at(other)):
        return False
    if task.answer_at(point) != task.answer_at(other):
        return False
    return _lists(rows) != _lists(other_rows)


def _is_same(value, expected):
    """Return whether any value is this tuple or integer, without booleans for integers."""
    if not isinstance(expected, tuple):
        return is_integer(value) and value == expected
    if not isinstance(value, tuple) or len(value) != len(expected):
        return False
    return all([_is_same(part, wanted) for part, wanted in zip(value, expected)])
