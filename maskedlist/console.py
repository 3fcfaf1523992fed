"""A console: a session whose actions are commands and whose answers are texts."""

from maskedlist.encoding import Encoding
from maskedlist.errors import InvalidCommand
from maskedlist.formats import DIGIT_VALUES, format_residues, parse_assignment, parse_formula
from maskedlist.formulas import is_variable
from maskedlist.sessions import Session, explain_transcript

MAX_DIGITS = 9


class Console:
    """Executes commands on a session of its own."""

    def __init__(self, modulus, assignments, tape):
        self._modulus = modulus
        self._session = Session(modulus, assignments, tape)

    def execute(self, command):
        """Execute a command and return its answer."""
        word, space, rest = command.partition(" ")
        if word == "define":
            return self._define(rest)
        if word == "request":
            return self._request(rest)
        if word == "answer":
            return self._answer(rest)
        if word == "restore":
            return self._restore(rest)
        if word == "explain":
            return self._explain(rest.split("; ") if space == " " else [])
        if command == "save":
            return str(self._session.save())
        if command == "left":
            return str(self._session.left())
        raise InvalidCommand()

    def _define(self, rest):
        name, space, text = rest.partition(" ")
        if space == "" or not is_variable(name):
            raise InvalidCommand()
        self._session.define(name, parse_formula(text, self._modulus))
        return "ok"

    def _request(self, name):
        # The names of formulas are words of the same form as variables.
        if not is_variable(name):
            raise InvalidCommand()
        entry = self._session.request(name)
        if entry[0] == "answered":
            return format_residues(entry[2])
        return "refused " + entry[2]

    def _answer(self, rest):
        position = _number(rest)
        transcript = self._session.transcript()
        if position >= len(transcript) or transcript[position][0] != "answered":
            raise InvalidCommand()
        _, formula, residues = transcript[position]
        return str(Encoding(formula, self._modulus).answer_from(residues))

    def _restore(self, rest):
        self._session.restore(_number(rest))
        return "ok"

    def _explain(self, texts):
        transcript = self._session.transcript()
        answered = [entry for entry in transcript if entry[0] == "answered"]
        if len(texts) != len(answered):
            raise InvalidCommand()
        assignments = [parse_assignment(text, self._modulus) for text in texts]
        found = explain_transcript(self._modulus, transcript, assignments)
        if found[0] == "coins":
            return format_residues(found[1])
        _, position, listed, own = found
        return f"differs at {position}: {listed}, not {own}"


def _number(text):
    """Return the number that this word of a command is."""
    if not 1 <= len(text) <= MAX_DIGITS or not all([sign in DIGIT_VALUES for sign in text]):
        raise InvalidCommand()
    if text[0] == "0" and text != "0":
        raise InvalidCommand()
    return int(text)
