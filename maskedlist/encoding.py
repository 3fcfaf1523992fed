"""Local lists: encodings of a formula whose pieces depend on at most four cells each."""

from maskedlist.cells import evaluate_polynomial
from maskedlist.errors import DifferentAnswers
from maskedlist.formulas import formula_variables, require_variables
from maskedlist.masked import decode_masked, mask_coin_count, mask_coins_for, masked_list, require_length
from maskedlist.programs import BranchingProgram, ZERO_FORM, compile_formula


class Encoding:
    """The pieces of a formula, and the ways from coins to its local lists and back."""

    def __init__(self, formula, modulus):
        self.program = compile_formula(formula, modulus)
        self.formula = formula
        self.modulus = modulus
        # Row by row, the terms of each entry of the masked matrix.
        self._entries = _masked_entries(self.program)
        self._pieces = _local_pieces(self._entries, mask_coin_count(self.program), modulus)

    def __len__(self):
        return len(self._pieces)

    def coin_count(self):
        """Return the number of coins."""
        pads = sum([_pad_count(terms) for terms in self._entries])
        return mask_coin_count(self.program) + pads

    def polynomials(self):
        """Return the tuple of the pieces as polynomials."""
        return self._pieces

    def list_for(self, assignment, coins):
        """Return the local list of an assignment with these coins."""
        self._require_values(assignment)
        require_length(coins, self.coin_count())
        return self._list_of(self._pieces, assignment, coins)

    def answer_from(self, residues):
        """Return the answer to which a local list decodes."""
        return decode_masked(self.program, self._entry_sums(residues))

    def coins_for(self, assignment, residues):
        """Return the coins with which the assignment gives this local list."""
        self._require_values(assignment)
        mask_coins = mask_coins_for(self.program, assignment, self._entry_sums(residues))
        values = [
            [evaluate_polynomial((term,), self.modulus, assignment, mask_coins) for term in terms]
            for terms in self._entries
        ]
        pads = self._pad_coins(values, residues)
        return (*mask_coins, *pads)

    def moved_coins(self, assignment, other, coins):
        """Return the coins with which other gives the list of the assignment with coins."""
        self._require_values(assignment)
        self._require_values(other)
        return self.coins_for(other, self.list_for(assignment, coins))

    def simulate(self, answer, coins):
        """Return the simulator's list, which is made from the answer alone."""
        require_length(coins, self.coin_count())
        if len(self) == 0 and answer != 0:
            raise DifferentAnswers(answer, 0)
        mask_coins = coins[:mask_coin_count(self.program)]
        sums = masked_list(self._simulator_program(answer), {}, mask_coins)
        entries = [
            tuple([(value, ()) for value in values]) for values in self._simulator_values(sums)
        ]
        pieces = _local_pieces(entries, len(mask_coins), self.modulus)
        return self._list_of(pieces, {}, coins)

    def simulator_coins(self, assignment, coins):
        """Return the coins with which the simulator gives the list of the assignment."""
        residues = self.list_for(assignment, coins)
        simulator = self._simulator_program(self.answer_from(residues))
        sums = self._entry_sums(residues)
        mask_coins = mask_coins_for(simulator, {}, sums)
        pads = self._pad_coins(self._simulator_values(sums), residues)
        return (*mask_coins, *pads)

    def _require_values(self, assignment):
        """Raise MissingVariable also for a variable that only the formula has."""
        require_variables(formula_variables(self.formula), assignment)

    def _list_of(self, pieces, assignment, coins):
        return tuple([
            evaluate_polynomial(piece, self.modulus, assignment, coins) for piece in pieces
        ])

    def _entry_residues(self, residues):
        """Cut a local list into the tuples of the pieces of each entry."""
        require_length(residues, len(self))
        parts = []
        start = 0
        for terms in self._entries:
            end = start + _piece_count(terms)
            parts.append(residues[start:end])
            start = end
        return parts

    def _entry_sums(self, residues):
        """Return the masked list whose entries are the sums of their pieces."""
        parts = self._entry_residues(residues)
        return tuple([sum(part) % self.modulus for part in parts])

    def _pad_coins(self, values, residues):
        """Return all coins behind the mask coins, for these values of the terms."""
        pairs = list(zip(values, self._entry_residues(residues)))
        return [coin for terms, part in pairs for coin in _entry_pads(terms, part, self.modulus)]

    def _simulator_program(self, answer):
        """Return a program of this size whose matrix has the answer in its corner alone."""
        sink = self.program.nodes - 1
        form = (answer % self.modulus, ())
        edges = () if form == ZERO_FORM else ((0, sink, form),)
        return BranchingProgram(self.modulus, self.program.nodes, edges)

    def _simulator_values(self, sums):
        """Return, for each entry, its sum and zeros in place of the values of its terms."""
        return [
            [total if index == 0 else 0 for index in range(len(terms))]
            for terms, total in zip(self._entries, sums)
        ]


def _masked_entries(program):
    """Return the tuple of the terms of each entry on or above the diagonal, row by row."""
    size = len(program) - 1
    forms = {(start, end): form for start, end, form in program.edges}
    return tuple([
        _entry_terms(row, column, size, forms, program.modulus)
        for row in range(size)
        for column in range(row, size)
    ])


def _entry_terms(row, column, size, forms, modulus):
    """Return the terms of an entry of the masked matrix R M U."""
    terms = []
    for middle in range(row, size):
        left = () if middle == row else (("coin", _left_coin(row, middle, size)),)
        for other in _middle_columns(middle, column, size):
            right = () if other == column else (("coin", size * (size - 1) // 2 + other),)
            for factor, cells in _matrix_terms(middle, other, forms, modulus):
                terms.append((factor, (*left, *cells, *right)))
    return tuple(terms)


def _left_coin(row, column, size):
    """Return the number of the coin that stands at this place of R, above its diagonal."""
    before = row * (size - 1) - row * (row - 1) // 2
    return before + column - row - 1


def _middle_columns(middle, column, size):
    """Return the columns in which both row middle of M and this column of U have entries."""
    first = max(middle - 1, 0)
    if column == size - 1:
        return list(range(first, size))
    return [column] if column >= first else []


def _matrix_terms(row, column, forms, modulus):
    """Return the terms of an entry of the program matrix M."""
    if column < row:
        return [(modulus - 1, ())]
    constant, pairs = forms.get((row, column + 1), ZERO_FORM)
    terms = [(factor, (("input", name),)) for name, factor in pairs]
    return [(constant, ()), *terms] if constant != 0 else terms


# An entry with less than two terms stands in the list as it is. Each term of another one is
# hidden by a pad, and a chain of pieces with links takes the pads away again.


def _piece_count(terms):
    return len(terms) if len(terms) < 2 else 2 * len(terms)


def _pad_count(terms):
    return 0 if len(terms) < 2 else 2 * len(terms) - 1


def _local_pieces(entries, start, modulus):
    """Return the tuple of the pieces of all entries, whose pads begin at coin start."""
    pieces = []
    coin = start
    for terms in entries:
        pieces.extend(_entry_pieces(terms, coin, modulus))
        coin += _pad_count(terms)
    return tuple(pieces)


def _entry_pieces(terms, start, modulus):
    count = len(terms)
    if count < 2:
        return [(term,) for term in terms]
    coins = [("coin", start + index) for index in range(_pad_count(terms))]
    pads = coins[:count]
    links = coins[count:]
    pieces = [(term, (1, (pad,))) for term, pad in zip(terms, pads)]
    for index, pad in enumerate(pads):
        before = [] if index == 0 else [(modulus - 1, (links[index - 1],))]
        after = [] if index == count - 1 else [(1, (links[index],))]
        pieces.append((*before, (modulus - 1, (pad,)), *after))
    return pieces


def _entry_pads(values, residues, modulus):
    """Return the pads and links that make these residues of terms with these values."""
    count = len(values)
    if count < 2:
        return []
    pads = [(residue - value) % modulus for residue, value in zip(residues, values)]
    links = []
    link = 0
    for residue, pad in zip(residues[count:-1], pads):
        link = (residue + pad + link) % modulus
        links.append(link)
    return [*pads, *links]
