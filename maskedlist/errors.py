"""The errors of the package; each keeps its arguments under their own names."""


class InvalidFormula(ValueError):
    """A value is not a formula; reason is the result of formula_error."""

    def __init__(self, reason):
        self.reason = reason


class InvalidProgram(ValueError):
    """Nodes and edges are not a branching program; position is the first bad edge, or -1."""

    def __init__(self, position):
        self.position = position


class WrongLength(ValueError):
    """A tuple has another length than the expected one."""

    def __init__(self, expected):
        self.expected = expected


class DifferentAnswers(ValueError):
    """The answer that is listed is not the own one."""

    def __init__(self, listed, own):
        self.listed = listed
        self.own = own


class ParseError(ValueError):
    """No valid text begins with the characters up to and including this position."""

    def __init__(self, position):
        self.position = position


class InvalidCommand(ValueError):
    """A text is not a command of the console."""


class MissingVariable(KeyError):
    """A variable has no value, or no owner."""

    def __init__(self, name):
        self.name = name


class UnknownParty(LookupError):
    """There is no party with this number."""

    def __init__(self, party):
        self.party = party


class UnknownCheckpoint(LookupError):
    """There is no checkpoint with this number."""

    def __init__(self, number):
        self.number = number


class MessageRefused(RuntimeError):
    """A message of this party was received before."""

    def __init__(self, party):
        self.party = party


class IncompleteMessages(RuntimeError):
    """The messages of these parties are missing."""

    def __init__(self, parties):
        self.parties = parties


class LimitExceeded(OverflowError):
    """A task is larger than this limit."""

    def __init__(self, limit):
        self.limit = limit
