"""Matrices of program shape, and the masks that turn them into each other."""

from maskedlist.errors import DifferentAnswers
from maskedlist.matrices import identity_matrix, invert_unitriangular, multiply_matrices


def program_matrix(program, assignment):
    """Return the program matrix at an assignment."""
    size = len(program) - 1
    parts = [[0] * (size - index) for index in range(size)]
    for start, end, factor in program.edge_values(assignment):
        parts[start][end - 1 - start] = factor
    return shaped_matrix(parts, program.modulus)


def shaped_matrix(parts, modulus):
    """Return the matrix of program shape with these rows from the diagonal on."""
    size = len(parts)
    rows = []
    for index, part in enumerate(parts):
        row = [0] * (size - len(part)) + list(part)
        if index > 0:
            row[index - 1] = modulus - 1
        rows.append(tuple(row))
    return tuple(rows)


def matrix_answer(matrix, modulus):
    """Return the answer D_0 of a matrix of program shape."""
    return _column_from_source(matrix, modulus)[0]


def node_column(matrix, modulus):
    """Return the node column (D_1, .., D_l) of a matrix of program shape."""
    return tuple(_column_from_source(matrix, modulus)[1:])


def _column_from_source(matrix, modulus):
    """Return the list (D_0, .., D_l)."""
    values = [0] * len(matrix) + [1]
    for index in reversed(range(len(matrix))):
        pairs = list(zip(matrix[index][index:], values[index + 1:]))
        values[index] = sum([entry * value for entry, value in pairs]) % modulus
    return values


def apply_mask(matrix, mask, modulus):
    """Return R M U for a matrix M and a mask (R, u)."""
    left, offsets = mask
    masked_rows = multiply_matrices(left, matrix, modulus)
    return multiply_matrices(masked_rows, _last_column_matrix(offsets), modulus)


def _last_column_matrix(offsets):
    """Return U: the identity matrix with the offsets above the corner of its last column."""
    column = (*offsets, 1)
    rows = identity_matrix(len(column))
    return tuple([row[:-1] + (entry,) for row, entry in zip(rows, column)])


def mask_between(one, other, modulus):
    """Return the mask that turns one matrix of program shape into the other."""
    listed = matrix_answer(other, modulus)
    own = matrix_answer(one, modulus)
    if listed != own:
        raise DifferentAnswers(listed, own)
    # U changes the last column only, so that R alone has to turn the other columns of one
    # into those of other. With the first unit column they make unitriangular matrices.
    inverse = invert_unitriangular(_unitriangular_part(one, modulus), modulus)
    left = multiply_matrices(_unitriangular_part(other, modulus), inverse, modulus)
    return (left, _offsets_between(one, other, modulus))


def _unitriangular_part(matrix, modulus):
    """Return the first unit column followed by the negated columns but the last one."""
    rows = []
    for index, row in enumerate(matrix):
        first = 1 if index == 0 else 0
        rows.append((first,) + tuple([-entry % modulus for entry in row[:-1]]))
    return tuple(rows)


def _offsets_between(one, other, modulus):
    # U turns the node column of other into that of one, and both end in 1.
    pairs = list(zip(node_column(one, modulus), node_column(other, modulus)))
    return tuple([(old - new) % modulus for old, new in pairs[:-1]])
