"""Polynomials over cells, which are the inputs of a formula and coins."""

from maskedlist.formulas import is_residue, is_variable, require_variables

MAX_CELLS = 4


def polynomial_error(value, modulus, coin_count):
    """Return None for a polynomial, else -1 or the index of the first invalid term."""
    if not isinstance(value, tuple):
        return -1
    for index, term in enumerate(value):
        if not _is_term(term, modulus, coin_count):
            return index
    return None


def _is_term(term, modulus, coin_count):
    """Return whether any value is a pair of a coefficient and at most four cells."""
    if not isinstance(term, tuple) or len(term) != 2:
        return False
    factor, cells = term
    if not is_residue(factor, modulus) or factor == 0:
        return False
    if not isinstance(cells, tuple) or len(cells) > MAX_CELLS:
        return False
    return all([_is_cell(cell, coin_count) for cell in cells])


def _is_cell(cell, coin_count):
    """Return whether any value is an input, or a coin below coin_count."""
    if not isinstance(cell, tuple) or len(cell) != 2:
        return False
    kind, name = cell
    if kind == "input":
        return is_variable(name)
    return kind == "coin" and is_residue(name, coin_count)


def evaluate_polynomial(polynomial, modulus, assignment, coins):
    """Return the value of a polynomial for an assignment and a coin vector."""
    require_variables(polynomial_variables(polynomial), assignment)
    values = [_term_value(term, assignment, coins) for term in polynomial]
    return sum(values) % modulus


def _term_value(term, assignment, coins):
    value, cells = term
    for kind, name in cells:
        value = value * (assignment[name] if kind == "input" else coins[name])
    return value


def polynomial_variables(polynomial):
    """Return the ascending tuple of the variables of a polynomial."""
    names = [name for kind, name in cells_of(polynomial) if kind == "input"]
    return tuple(sorted(names))


def cells_of(polynomial):
    """Return the different cells of a polynomial in the order of their first occurrence."""
    # A dict keeps the order in which its keys were added.
    found = {}
    for _, cells in polynomial:
        for cell in cells:
            found[cell] = True
    return tuple(found)
