"""Masked lists: the entries of masked program matrices."""

from maskedlist.errors import WrongLength
from maskedlist.masks import apply_mask, mask_between, matrix_answer, program_matrix, shaped_matrix


def mask_coin_count(program):
    """Return the number of mask coins of a program."""
    size = len(program) - 1
    return size * (size - 1) // 2 + size - 1


def masked_list(program, assignment, coins):
    """Return the masked list of a program at an assignment, for these mask coins."""
    matrix = program_matrix(program, assignment)
    require_length(coins, mask_coin_count(program))
    masked = apply_mask(matrix, _mask_from_coins(coins, len(matrix)), program.modulus)
    return tuple([entry for index, row in enumerate(masked) for entry in row[index:]])


def decode_masked(program, residues):
    """Return the answer to which a masked list decodes."""
    return matrix_answer(_listed_matrix(program, residues), program.modulus)


def mask_coins_for(program, assignment, residues):
    """Return the mask coins with which the assignment gives this masked list."""
    matrix = program_matrix(program, assignment)
    listed = _listed_matrix(program, residues)
    left, offsets = mask_between(matrix, listed, program.modulus)
    above = [entry for index, row in enumerate(left) for entry in row[index + 1:]]
    return (*above, *offsets)


def require_length(values, expected):
    """Raise WrongLength if there is another number of values than expected."""
    if len(values) != expected:
        raise WrongLength(expected)


def _listed_matrix(program, residues):
    """Return the matrix of program shape with the entries of a masked list."""
    size = len(program) - 1
    require_length(residues, size * (size + 1) // 2)
    return shaped_matrix(_triangle_rows(residues, size), program.modulus)


def _mask_from_coins(coins, size):
    """Return the mask (R, u) with so many rows that has these mask coins."""
    parts = [*_triangle_rows(coins, size - 1), ()]
    rows = [(0,) * index + (1, *part) for index, part in enumerate(parts)]
    return (tuple(rows), coins[len(coins) - size + 1:])


def _triangle_rows(entries, size):
    """Cut off rows of size, size - 1, .., 1 entries."""
    rows = []
    start = 0
    for length in reversed(range(1, size + 1)):
        rows.append(entries[start:start + length])
        start += length
    return rows
