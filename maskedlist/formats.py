"""Texts for formulas, residues and assignments, and back."""

from maskedlist.errors import InvalidFormula, ParseError
from maskedlist.formulas import LETTERS, MAX_LETTERS, OPERAND_COUNTS, formula_error

DIGIT_VALUES = {
    "0": 0, "1": 1, "2": 2, "3": 3, "4": 4, "5": 5, "6": 6, "7": 7, "8": 8, "9": 9,
}
NOTHING = "-"


def format_formula(formula):
    """Return the text of a formula."""
    if not isinstance(formula, tuple):
        return str(formula)
    operands = [format_formula(operand) for operand in formula[1:]]
    return formula[0] + "(" + ",".join(operands) + ")"


def format_residues(residues):
    """Return the text of a tuple of residues."""
    if len(residues) == 0:
        return NOTHING
    return " ".join([str(residue) for residue in residues])


def format_assignment(assignment):
    """Return the text of an assignment."""
    if len(assignment) == 0:
        return NOTHING
    return " ".join([f"{name}={assignment[name]}" for name in sorted(assignment)])


class Reader:
    """A text and the place up to which it has been read.

    Whatever is read takes as many characters as can belong to it. So what follows begins with the
    first character that cannot, and if nothing can follow either, the error has this position.
    """

    def __init__(self, text):
        self._text = text
        self._place = 0

    def next_sign(self):
        """Return the next character, or an empty string at the end."""
        return self._text[self._place:self._place + 1]

    def at_letter(self):
        """Return whether the next character is a letter."""
        return self.next_sign() != "" and self.next_sign() in LETTERS

    def expect(self, sign):
        """Read this character; the empty string is the end of the text."""
        if self.next_sign() != sign:
            raise ParseError(self._place)
        self._place += len(sign)

    def read_residue(self, modulus):
        """Read a residue."""
        value = self._next_digit(modulus)
        if value >= modulus:
            raise ParseError(self._place)
        self._place += 1
        # No digit follows a 0 at the front.
        while value > 0 and 10 * value + self._next_digit(modulus) < modulus:
            value = 10 * value + self._next_digit(modulus)
            self._place += 1
        return value

    def _next_digit(self, modulus):
        """Return the value of the next character, or the modulus if it is no digit."""
        return DIGIT_VALUES.get(self.next_sign(), modulus)

    def read_name(self, before):
        """Read a name that comes after this one in ascending order."""
        name = ""
        while len(name) < MAX_LETTERS and self.at_letter():
            name = name + self.next_sign()
            if _last_name(name) <= before:
                raise ParseError(self._place)
            self._place += 1
        if name <= before:
            raise ParseError(self._place)
        return name


def _last_name(letters):
    """Return the last name in ascending order that begins with these letters."""
    return letters + LETTERS[-1] * (MAX_LETTERS - len(letters))


def parse_formula(text, modulus):
    """Return the formula that is written as this text."""
    formula = _read_formula(Reader(text), modulus)
    reason = formula_error(formula, modulus)
    if reason is not None:
        raise InvalidFormula(reason)
    return formula


def _read_formula(reader, modulus):
    """Read a whole text as a formula of any size."""
    # The operations that are not complete, the innermost one last, each as a list.
    waiting = []
    part = _read_leaf(reader, modulus, waiting)
    while waiting:
        operation = waiting[-1]
        operation.append(part)
        if len(operation) <= OPERAND_COUNTS[operation[0]]:
            reader.expect(",")
            part = _read_leaf(reader, modulus, waiting)
        else:
            reader.expect(")")
            part = tuple(waiting.pop())
    reader.expect("")
    return part


def _read_leaf(reader, modulus, waiting):
    """Read the next leaf, and before it the operations that begin there, which then wait."""
    while reader.at_letter():
        word = reader.read_name("")
        if word not in OPERAND_COUNTS or reader.next_sign() != "(":
            return word
        reader.expect("(")
        waiting.append([word])
    return reader.read_residue(modulus)


def parse_residues(text, modulus):
    """Return the tuple of residues that is written as this text."""
    reader = Reader(text)
    if _reads_nothing(reader):
        return ()
    residues = [reader.read_residue(modulus)]
    while reader.next_sign() != "":
        reader.expect(" ")
        residues.append(reader.read_residue(modulus))
    return tuple(residues)


def parse_assignment(text, modulus):
    """Return the assignment that is written as this text, a dict in ascending order."""
    reader = Reader(text)
    if _reads_nothing(reader):
        return {}
    assignment = {}
    name = ""
    while True:
        name = reader.read_name(name)
        reader.expect("=")
        assignment[name] = reader.read_residue(modulus)
        # No name can follow the last one of all.
        if reader.next_sign() == "" or name == _last_name(""):
            reader.expect("")
            return assignment
        reader.expect(" ")


def _reads_nothing(reader):
    """Read the text of nothing as a whole and return whether it stands there."""
    if reader.next_sign() != NOTHING:
        return False
    reader.expect(NOTHING)
    reader.expect("")
    return True
