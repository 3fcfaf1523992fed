"""Square matrices of residues, as tuples of rows."""


def multiply_matrices(one, other, modulus):
    """Return the product of two matrices of the same size."""
    columns = list(zip(*other))
    return tuple([
        tuple([_row_times_column(row, column) % modulus for column in columns])
        for row in one
    ])


def _row_times_column(row, column):
    return sum([left * right for left, right in zip(row, column)])


def identity_matrix(size):
    """Return the identity matrix with so many rows."""
    return tuple([_unit_row(index, size) for index in range(size)])


def _unit_row(index, size):
    return tuple([1 if at == index else 0 for at in range(size)])


def invert_unitriangular(matrix, modulus):
    """Return the inverse of a unitriangular matrix, which is unitriangular, too."""
    size = len(matrix)
    inverse = list(identity_matrix(size))
    # A row of the inverse depends on the rows below it alone, so the last one comes first.
    for index in reversed(range(size)):
        inverse[index] = _inverse_row(matrix[index], index, inverse, modulus)
    return tuple(inverse)


def _inverse_row(row, index, inverse, modulus):
    """Return a row of the inverse, in which the rows below it are already right."""
    entries = list(_unit_row(index, len(row)))
    for below in range(index + 1, len(row)):
        for at in range(below, len(row)):
            entries[at] -= row[below] * inverse[below][at]
    return tuple([entry % modulus for entry in entries])
