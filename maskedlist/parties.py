"""Parties who send the pieces of a local list to a referee."""

from maskedlist.cells import evaluate_polynomial, polynomial_variables
from maskedlist.encoding import Encoding
from maskedlist.errors import IncompleteMessages, MessageRefused, UnknownParty
from maskedlist.formulas import formula_variables, require_variables
from maskedlist.masked import require_length


def piece_owners(encoding, owners):
    """Return the tuple with the party of each piece."""
    require_variables(formula_variables(encoding.formula), owners)
    return tuple([_piece_owner(piece, owners) for piece in encoding.polynomials()])


def _piece_owner(piece, owners):
    names = polynomial_variables(piece)
    # A piece has one input at most.
    return owners[names[0]] if names else 0


def message_of(encoding, owners, party, assignment, coins):
    """Return the values of the pieces of a party."""
    pairs = list(zip(encoding.polynomials(), piece_owners(encoding, owners)))
    pieces = [piece for piece, owner in pairs if owner == party]
    # Checked for all pieces beforehand, since they do not stand in the order of their variables.
    names = [name for piece in pieces for name in polynomial_variables(piece)]
    require_variables(sorted(names), assignment)
    require_length(coins, encoding.coin_count())
    return tuple([
        evaluate_polynomial(piece, encoding.modulus, assignment, coins) for piece in pieces
    ])


class Referee:
    """Receives one message of each party and puts the local list together."""

    def __init__(self, encoding, owners, parties):
        self._piece_owners = piece_owners(encoding, owners)
        self._encoding = Encoding(encoding.formula, encoding.modulus)
        self._parties = parties
        self._messages = {}

    def __len__(self):
        return len(self._messages)

    def receive(self, party, message):
        """Take the message of a party."""
        if not 0 <= party < self._parties:
            raise UnknownParty(party)
        if party in self._messages:
            raise MessageRefused(party)
        require_length(message, self._piece_owners.count(party))
        self._messages[party] = tuple(message)

    def missing(self):
        """Return the ascending list of the parties whose messages are missing."""
        return [party for party in range(self._parties) if party not in self._messages]

    def residues(self):
        """Return the local list."""
        parties = self.missing()
        if parties:
            raise IncompleteMessages(tuple(parties))
        listed = []
        places = {}
        for owner in self._piece_owners:
            place = places.get(owner, 0)
            listed.append(self._messages[owner][place])
            places[owner] = place + 1
        return tuple(listed)

    def answer(self):
        """Return the answer to which the local list decodes."""
        return self._encoding.answer_from(self.residues())
