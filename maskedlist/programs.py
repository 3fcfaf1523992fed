"""Branching programs over linear forms, and how a formula compiles to one."""

from maskedlist.errors import InvalidFormula, InvalidProgram
from maskedlist.formulas import formula_error, is_integer, is_residue, is_variable, require_variables

MIN_NODES = 2
MAX_NODES = 9
ZERO_FORM = (0, ())


class BranchingProgram:
    """Nodes from 0, the source, to the sink, and edges with linear forms between them."""

    def __init__(self, modulus, nodes, edges):
        position = _program_error(modulus, nodes, edges)
        if position is not None:
            raise InvalidProgram(position)
        self.modulus = modulus
        self.nodes = nodes
        self.edges = edges

    def __eq__(self, other):
        return (
            isinstance(other, BranchingProgram)
            and self.modulus == other.modulus
            and self.nodes == other.nodes
            and self.edges == other.edges
        )

    def __len__(self):
        return len(range(self.nodes))

    def program_variables(self):
        """Return the ascending tuple of the variables of the edges."""
        names = [name for edge in self.edges for name, _ in edge[2][1]]
        return tuple(sorted(set(names)))

    def edge_values(self, assignment):
        """Return the list of the triples (start, end, value of the form), ascending."""
        require_variables(self.program_variables(), assignment)
        return [
            (start, end, _form_value(form, self.modulus, assignment))
            for start, end, form in self.edges
        ]

    def node_values(self, assignment):
        """Return the tuple of the node values (D_0, .., D_(n-1))."""
        values = [0] * self.nodes
        values[-1] = 1
        # Edges lead to later nodes: from the last edge on, the end of each one has its value.
        for start, end, factor in reversed(self.edge_values(assignment)):
            values[start] = (values[start] + factor * values[end]) % self.modulus
        return tuple(values)

    def result(self, assignment):
        """Return the value D_0 of the program."""
        return self.node_values(assignment)[0]


def _form_value(form, modulus, assignment):
    constant, pairs = form
    return (constant + sum([factor * assignment[name] for name, factor in pairs])) % modulus


def _program_error(modulus, nodes, edges):
    """Return None for a branching program, else -1 or the index of the first invalid edge."""
    if not is_integer(nodes) or not MIN_NODES <= nodes <= MAX_NODES:
        return -1
    if not isinstance(edges, tuple):
        return -1
    for position, edge in enumerate(edges):
        if not _is_edge(edge, modulus, nodes):
            return position
        if position > 0 and edges[position - 1][:2] >= edge[:2]:
            return position
    return None


def _is_edge(edge, modulus, nodes):
    """Return whether any value is a triple (start, end, form), the form not zero."""
    if not _is_tuple(edge, 3):
        return False
    start, end, form = edge
    if not is_residue(start, nodes) or not is_residue(end, nodes) or start >= end:
        return False
    return _is_form(form, modulus) and form != ZERO_FORM


def _is_form(form, modulus):
    """Return whether any value is a linear form."""
    if not _is_tuple(form, 2):
        return False
    constant, pairs = form
    if not is_residue(constant, modulus) or not isinstance(pairs, tuple):
        return False
    if not all([_is_pair(pair, modulus) for pair in pairs]):
        return False
    names = [name for name, _ in pairs]
    return names == sorted(set(names))


def _is_pair(pair, modulus):
    """Return whether any value is a pair of a variable and a coefficient."""
    if not _is_tuple(pair, 2):
        return False
    name, factor = pair
    return is_variable(name) and is_residue(factor, modulus) and factor != 0


def _is_tuple(value, length):
    return isinstance(value, tuple) and len(value) == length


def compile_formula(formula, modulus):
    """Return the branching program of any value that is a formula."""
    reason = formula_error(formula, modulus)
    if reason is not None:
        raise InvalidFormula(reason)
    nodes, forms = _compiled(formula, modulus)
    edges = [(start, end, forms[(start, end)]) for start, end in sorted(forms)]
    return BranchingProgram(modulus, nodes, tuple(edges))


# A draft is a program that is being compiled: a pair of its number of nodes and a dict from
# the pairs (start, end) of its edges to their forms.


def _compiled(formula, modulus):
    """Return the draft of a formula."""
    if not isinstance(formula, tuple):
        return _leaf_draft(formula, modulus)
    word = formula[0]
    if word == "not":
        return _compiled(("minus", 1, formula[1]), modulus)
    if word == "or":
        negations = ("times", ("not", formula[1]), ("not", formula[2]))
        return _compiled(("not", negations), modulus)
    first, second = [_compiled(operand, modulus) for operand in formula[1:]]
    if word == "plus":
        return _side_by_side(first, second, modulus)
    if word == "minus":
        return _side_by_side(first, _negated(second, modulus), modulus)
    return _one_after_other(first, second)


def _leaf_draft(leaf, modulus):
    form = (0, ((leaf, 1),)) if isinstance(leaf, str) else (leaf, ())
    # Reduced, since modulo 1 even a variable is the zero form.
    reduced = _form_sum(ZERO_FORM, form, modulus)
    return (2, {} if reduced == ZERO_FORM else {(0, 1): reduced})


def _negated(draft, modulus):
    """Negate the forms of the edges that leave the source."""
    nodes, forms = draft
    changed = {}
    for start, end in forms:
        form = forms[(start, end)]
        changed[(start, end)] = _negated_form(form, modulus) if start == 0 else form
    return (nodes, changed)


def _negated_form(form, modulus):
    constant, pairs = form
    return (-constant % modulus, tuple([(name, -factor % modulus) for name, factor in pairs]))


def _side_by_side(first, second, modulus):
    """Join the sources and the sinks of two drafts, whose values are then added."""
    last = first[0] + second[0] - 3
    forms = _renumbered(first, 0, last)
    others = _renumbered(second, first[0] - 2, last)
    # Only an edge from source to sink may stand in both.
    for ends in others:
        forms[ends] = _form_sum(forms.get(ends, ZERO_FORM), others[ends], modulus)
    return (last + 1, {ends: forms[ends] for ends in forms if forms[ends] != ZERO_FORM})


def _renumbered(draft, shift, last):
    """Return the forms of a draft with its inner nodes shifted and this sink."""
    nodes, forms = draft
    numbers = [0] + [inner + shift for inner in range(1, nodes - 1)] + [last]
    return {(numbers[start], numbers[end]): forms[(start, end)] for start, end in forms}


def _form_sum(one, other, modulus):
    factors = dict(one[1])
    for name, factor in other[1]:
        factors[name] = factors.get(name, 0) + factor
    pairs = [(name, factors[name] % modulus) for name in sorted(factors)]
    constant = (one[0] + other[0]) % modulus
    return (constant, tuple([(name, factor) for name, factor in pairs if factor != 0]))


def _one_after_other(first, second):
    """Make the sink of the first the source of the second: their values are multiplied."""
    shift = first[0] - 1
    forms = {ends: first[1][ends] for ends in first[1]}
    for start, end in second[1]:
        forms[(start + shift, end + shift)] = second[1][(start, end)]
    return (shift + second[0], forms)
