"""Formulas over residues: their form, their variables and their answers."""

from maskedlist.errors import MissingVariable

OPERAND_COUNTS = {"plus": 2, "minus": 2, "times": 2, "not": 1, "and": 2, "or": 2}
LETTERS = "abcdefghijklmnopqrstuvwxyz"
MAX_LETTERS = 6
MAX_LEAVES = 8
MAX_TUPLES = 16
MAX_DEPTH = 12


def is_integer(value):
    """Return whether any value is an int that is not a bool."""
    return isinstance(value, int) and not isinstance(value, bool)


def is_residue(value, modulus):
    """Return whether any value is an integer from 0 to modulus - 1."""
    return is_integer(value) and 0 <= value < modulus


def is_variable(value):
    """Return whether any value is a string of 1 to 6 letters a to z."""
    if not isinstance(value, str) or not 1 <= len(value) <= MAX_LETTERS:
        return False
    return all([sign in LETTERS for sign in value])


def formula_error(value, modulus):
    """Return None for a formula, else ("form", path) or ("size", ())."""
    leaves = 0
    tuples = 0
    depth = 0
    waiting = [(value, ())]
    while waiting:
        part, path = waiting.pop()
        if not _is_built(part, modulus):
            return ("form", path)
        if isinstance(part, tuple):
            tuples += 1
            depth = max(depth, len(path) + 1)
            # The last part that is put here is taken first: operand 1 goes on top.
            for position in reversed(range(1, len(part))):
                waiting.append((part[position], (*path, position)))
        else:
            leaves += 1
    if leaves > MAX_LEAVES or tuples > MAX_TUPLES or depth > MAX_DEPTH:
        return ("size", ())
    return None


def _is_built(part, modulus):
    """Return whether a part is a leaf or an operation, whatever its operands are."""
    if isinstance(part, tuple):
        return _is_operation(part)
    return is_residue(part, modulus) or is_variable(part)


def _is_operation(part):
    # Only a string is looked up: a list or a dict cannot be a key.
    if len(part) == 0 or not isinstance(part[0], str):
        return False
    return OPERAND_COUNTS.get(part[0]) == len(part) - 1


def formula_variables(formula):
    """Return the ascending tuple of the variables of a formula."""
    return tuple(sorted(set(_variable_leaves(formula))))


def _variable_leaves(formula):
    """Return the list of the variables at the leaves, each occurrence once."""
    if isinstance(formula, str):
        return [formula]
    if isinstance(formula, tuple):
        return [name for part in formula[1:] for name in _variable_leaves(part)]
    return []


def require_variables(names, assignment):
    """Raise MissingVariable for the first of the names that the assignment lacks."""
    for name in names:
        if name not in assignment:
            raise MissingVariable(name)


def evaluate_formula(formula, modulus, assignment):
    """Return the answer of a formula at an assignment."""
    # Checked beforehand, since the leaves do not stand in the order of their names.
    require_variables(formula_variables(formula), assignment)
    return _value(formula, modulus, assignment)


def _value(formula, modulus, assignment):
    if isinstance(formula, str):
        return assignment[formula] % modulus
    if isinstance(formula, tuple):
        values = [_value(part, modulus, assignment) for part in formula[1:]]
        return _combined(formula[0], values) % modulus
    return formula % modulus


def _combined(word, values):
    """Return the polynomial of an operator at the values of its operands."""
    if word == "not":
        return 1 - values[0]
    first, second = values
    if word == "plus":
        return first + second
    if word == "minus":
        return first - second
    if word == "or":
        return 1 - (1 - first) * (1 - second)
    return first * second
