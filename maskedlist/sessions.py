"""Sessions that answer requests one after the other, and explanations of their transcripts."""

from maskedlist.encoding import Encoding
from maskedlist.errors import DifferentAnswers, UnknownCheckpoint
from maskedlist.formulas import formula_variables


class Session:
    """Assignments, a tape of coins, names of formulas, and the transcript of the requests."""

    def __init__(self, modulus, assignments, tape):
        self._modulus = modulus
        # With no assignment at all, every variable lacks a value.
        self._assignments = [dict(assignment) for assignment in assignments] or [{}]
        self._tape = tuple(tape)
        self._used = 0
        self._answered = 0
        self._encodings = {}
        self._checkpoints = []
        self._entries = []

    def __len__(self):
        return len(self._entries)

    def define(self, name, formula):
        """Give a name to any value that is a formula."""
        self._encodings[name] = Encoding(formula, self._modulus)

    def request(self, name):
        """Answer or refuse a request and return the new entry of the transcript."""
        entry = self._entry_for(name)
        self._entries.append(entry)
        return entry

    def _entry_for(self, name):
        if name not in self._encodings:
            return ("refused", name, "name")
        encoding = self._encodings[name]
        assignment = self._next_assignment()
        if not all([variable in assignment for variable in formula_variables(encoding.formula)]):
            return ("refused", name, "value")
        if encoding.coin_count() > self.left():
            return ("refused", name, "coins")
        end = self._used + encoding.coin_count()
        residues = encoding.list_for(assignment, self._tape[self._used:end])
        self._used = end
        self._answered += 1
        return ("answered", encoding.formula, residues)

    def _next_assignment(self):
        """Return the assignment of the next answered request."""
        return self._assignments[min(self._answered, len(self._assignments) - 1)]

    def save(self):
        """Keep the names as they are now and return the number of this checkpoint."""
        self._checkpoints.append(dict(self._encodings))
        return len(self._checkpoints) - 1

    def restore(self, number):
        """Bring back the names of a checkpoint and discard the later checkpoints."""
        if not 0 <= number < len(self._checkpoints):
            raise UnknownCheckpoint(number)
        del self._checkpoints[number + 1:]
        self._encodings = dict(self._checkpoints[number])

    def transcript(self):
        """Return the tuple of the entries."""
        return tuple(self._entries)

    def left(self):
        """Return the number of unused coins."""
        return len(self._tape) - self._used

    def defined(self):
        """Return a dict from the names to their formulas."""
        return {name: self._encodings[name].formula for name in self._encodings}


def run_strategy(session, strategy, steps):
    """Perform at most so many actions of a strategy and return how many were performed."""
    performed = 0
    while performed < steps:
        action = strategy(session.transcript())
        performed += 1
        if action[0] == "stop":
            return performed
        _perform(session, action)
    return performed


def _perform(session, action):
    word = action[0]
    if word == "define":
        session.define(action[1], action[2])
    elif word == "request":
        session.request(action[1])
    elif word == "save":
        session.save()
    elif word == "restore":
        session.restore(action[1])


def explain_transcript(modulus, transcript, assignments):
    """Return the coins that these assignments need for a transcript, or the first difference."""
    coins = []
    answered = 0
    for position, entry in enumerate(transcript):
        if entry[0] != "answered":
            continue
        encoding = Encoding(entry[1], modulus)
        try:
            found = encoding.coins_for(assignments[answered], entry[2])
        except DifferentAnswers as difference:
            return ("differs", position, difference.listed, difference.own)
        coins.extend(found)
        answered += 1
    return ("coins", tuple(coins))
