"""Tests of maskedlist.parties: point 16 and the interface's section on parties."""

import copy
import inspect
import itertools
import unittest

from maskedlist import parties
from maskedlist.cells import cells_of, evaluate_polynomial
from maskedlist.encoding import Encoding
from maskedlist.errors import (
    IncompleteMessages, MessageRefused, MissingVariable, UnknownParty, WrongLength,
)
from maskedlist.formulas import evaluate_formula, formula_variables
from maskedlist.parties import Referee, message_of, piece_owners

SUM = ("plus", "x", "y")
PRODUCT = ("times", "x", "y")
UNUSED = ("plus", ("minus", "b", "b"), PRODUCT)
MANY = ("times", ("plus", "a", "b"), ("or", ("minus", "c", "d"), ("not", "e")))
FORMULAS = (0, 1, "x", SUM, PRODUCT, UNUSED, MANY, ("minus", "x", "x"), ("not", ("and", "x", "y")))


def some_residues(count, modulus, seed):
    """Numbers that look different for each seed, the same in each run."""
    numbers = [(at + 5) ** 3 * 13 + 29 * seed * (at + 2) + seed ** 3 for at in range(count)]
    return tuple(number // 7 % modulus for number in numbers)


def some_owners(formula, count, seed):
    names = formula_variables(formula)
    return dict(zip(names, some_residues(len(names), count, seed), strict=True))


def some_assignment(formula, modulus, seed):
    names = formula_variables(formula)
    return dict(zip(names, some_residues(len(names), modulus, seed + 50), strict=True))


def expected_owners(encoding, owners):
    """The owner of the only input, or party 0."""
    found = []
    for piece in encoding.polynomials():
        inputs = [name for word, name in cells_of(piece) if word == "input"]
        found.append(sum(owners[name] for name in inputs))
    return tuple(found)


def all_messages(encoding, owners, count, assignment, coins):
    return [message_of(encoding, owners, party, assignment, coins) for party in range(count)]


class PartiesTest(unittest.TestCase):
    def assert_raises(self, error_class, fields, function, *arguments):
        with self.assertRaises(error_class) as caught:
            function(*arguments)
        self.assertIs(type(caught.exception), error_class)
        self.assertEqual(vars(caught.exception), fields)

    def assert_missing(self, name, function, *arguments):
        self.assert_raises(MissingVariable, {"name": name}, function, *arguments)


class Interface(PartiesTest):
    def test_functions_and_parameters(self):
        expected = {
            "piece_owners": ["encoding", "owners"],
            "message_of": ["encoding", "owners", "party", "assignment", "coins"],
            "Referee": ["encoding", "owners", "parties"],
        }
        for name, parameters in expected.items():
            with self.subTest(name):
                function = getattr(parties, name)
                self.assertEqual(function.__module__, "maskedlist.parties")
                self.assertEqual(list(inspect.signature(function).parameters), parameters)

    def test_methods(self):
        expected = {"receive": ["party", "message"], "missing": [], "residues": [], "answer": []}
        referee = Referee(Encoding(SUM, 2), {"x": 0, "y": 1}, 2)
        for name, parameters in expected.items():
            self.assertIn(name, vars(Referee))
            method = getattr(referee, name)
            self.assertEqual(list(inspect.signature(method).parameters), parameters)
        self.assertIn("__len__", vars(Referee))

    def test_examples(self):
        encoding = Encoding(SUM, 2)
        owners = {"x": 0, "y": 1}
        self.assertEqual(piece_owners(encoding, owners), (0, 1, 0, 0))
        self.assertEqual(message_of(encoding, owners, 1, {"y": 1}, (0, 1, 0)), (0,))
        referee = Referee(encoding, owners, 2)
        self.assertIsNone(referee.receive(1, (0,)))
        self.assertIsNone(referee.receive(0, (1, 0, 1)))
        self.assertEqual((referee.residues(), referee.answer()), ((1, 0, 0, 1), 0))
        referee = Referee(encoding, owners, 3)
        referee.receive(2, ())
        self.assertEqual(referee.missing(), [0, 1])

    def test_keyword_arguments(self):
        encoding = Encoding(SUM, 2)
        owners = {"x": 0, "y": 1}
        self.assertEqual(piece_owners(owners=owners, encoding=encoding), (0, 1, 0, 0))
        message = message_of(
            coins=(0, 1, 0), assignment={"y": 1}, party=1, owners=owners, encoding=encoding
        )
        self.assertEqual(message, (0,))
        referee = Referee(parties=2, owners=owners, encoding=encoding)
        self.assertIsNone(referee.receive(message=message, party=1))
        self.assertEqual(referee.missing(), [0])

    def test_arguments_stay_the_same(self):
        encoding = Encoding(MANY, 5)
        owners = some_owners(MANY, 3, 1)
        assignment = some_assignment(MANY, 5, 1)
        coins = some_residues(encoding.coin_count(), 5, 1)
        kept = (owners, assignment, encoding.polynomials(), encoding.formula, encoding.program.edges)
        before = copy.deepcopy(kept)
        referee = Referee(encoding, owners, 3)
        piece_owners(encoding, owners)
        for party, message in enumerate(all_messages(encoding, owners, 3, assignment, coins)):
            referee.receive(party, message)
        referee.answer()
        for wrong in ({}, {"a": 1}):
            with self.assertRaises(MissingVariable):
                piece_owners(encoding, wrong)
        self.assertEqual(kept, before)
        self.assertEqual(list(owners), list(before[0]))
        self.assertEqual(encoding.list_for(assignment, coins), referee.residues())


class Owners(PartiesTest):
    def test_each_piece(self):
        for formula, modulus, count, seed in itertools.product(FORMULAS, (2, 5), (1, 3, 6), range(3)):
            encoding = Encoding(formula, modulus)
            owners = some_owners(formula, count, seed)
            found = piece_owners(encoding, owners)
            self.assertIs(type(found), tuple)
            self.assertEqual(found, expected_owners(encoding, owners))

    def test_a_product_written_out(self):
        # x - R, x u - R u + R y, y - u: the terms first, then the chain pieces.
        expected = (3, 0, 0, 0, 3, 0, 5, 0, 0, 0, 0, 5, 0, 0)
        self.assertEqual(piece_owners(Encoding(PRODUCT, 3), {"x": 3, "y": 5}), expected)

    def test_pieces_without_an_input_belong_to_party_0(self):
        self.assertEqual(piece_owners(Encoding(3, 5), {}), (0,))
        self.assertEqual(piece_owners(Encoding(0, 5), {}), ())
        self.assertEqual(piece_owners(Encoding("x", 5), {"x": 4}), (4,))
        self.assertEqual(piece_owners(Encoding(("plus", 1, "x"), 5), {"x": 4}), (0, 4, 0, 0))

    def test_further_owners(self):
        owners = {"z": 1, "x": 0, "a": 2, "y": 1}
        self.assertEqual(piece_owners(Encoding(SUM, 2), owners), (0, 1, 0, 0))

    def test_missing_owners(self):
        encoding = Encoding(MANY, 3)
        names = formula_variables(MANY)
        for count in range(5):
            for kept in itertools.combinations(names, count):
                owners = {name: 0 for name in (*kept, "z", "aa")}
                lacking = [name for name in names if name not in kept]
                coins = (0,) * encoding.coin_count()
                self.assert_missing(lacking[0], piece_owners, encoding, owners)
                self.assert_missing(lacking[0], message_of, encoding, owners, 0, {}, coins)
                self.assert_missing(lacking[0], Referee, encoding, owners, 2)

    def test_missing_owner_of_a_variable_without_a_piece(self):
        owners = {"x": 0, "y": 1}
        encoding = Encoding(UNUSED, 5)
        self.assert_missing("b", piece_owners, encoding, owners)
        self.assert_missing("b", Referee, encoding, owners, 2)
        self.assert_missing("b", message_of, encoding, owners, 1, {"y": 1}, (0,) * 13)
        self.assert_missing("x", piece_owners, Encoding(("minus", "x", "x"), 5), {})


class Messages(PartiesTest):
    def test_the_pieces_of_each_party(self):
        for formula, modulus, count, seed in itertools.product(FORMULAS, (2, 5), (1, 3, 6), range(3)):
            encoding = Encoding(formula, modulus)
            owners = some_owners(formula, count, seed)
            assignment = some_assignment(formula, modulus, seed)
            coins = some_residues(encoding.coin_count(), modulus, seed)
            owned = list(zip(encoding.polynomials(), expected_owners(encoding, owners), strict=True))
            for party in range(count + 1):
                own = {name: assignment[name] for name in owners if owners[name] == party}
                message = message_of(encoding, owners, party, own, coins)
                self.assertIs(type(message), tuple)
                expected = tuple(
                    evaluate_polynomial(piece, modulus, assignment, coins)
                    for piece, owner in owned if owner == party
                )
                self.assertEqual(message, expected)
                self.assertEqual(message_of(encoding, owners, party, assignment, coins), expected)

    def test_all_messages_are_the_list(self):
        for formula, modulus, count, seed in itertools.product(FORMULAS, (2, 5), (1, 3, 6), range(3)):
            encoding = Encoding(formula, modulus)
            owners = some_owners(formula, count, seed)
            assignment = some_assignment(formula, modulus, seed)
            coins = some_residues(encoding.coin_count(), modulus, seed)
            messages = all_messages(encoding, owners, count, assignment, coins)
            given = [iter(message) for message in messages]
            together = tuple(next(given[party]) for party in piece_owners(encoding, owners))
            self.assertEqual(together, encoding.list_for(assignment, coins))
            self.assertEqual([list(rest) for rest in given], [[]] * count)

    def test_a_party_without_pieces(self):
        owners = {"x": 0, "y": 1, "b": 2}
        encoding = Encoding(UNUSED, 5)
        self.assertEqual(message_of(encoding, owners, 2, {}, (0,) * 13), ())
        self.assertEqual(message_of(encoding, owners, 5, {}, (0,) * 13), ())
        self.assert_raises(
            WrongLength, {"expected": 13}, message_of, encoding, owners, 2, {}, (0,) * 12
        )
        self.assertEqual(message_of(Encoding(0, 5), {}, 0, {}, ()), ())

    def test_errors_in_their_order(self):
        encoding = Encoding(("plus", PRODUCT, ("times", "y", "b")), 3)
        count = encoding.coin_count()
        owners = {"x": 1, "y": 1, "b": 0}
        for coins in ((), (1,), (1,) * (count - 1), (1,) * (count + 1), (1,) * count):
            lacking = {"x": 1, "b": 0}
            self.assert_missing("y", message_of, encoding, lacking, 1, {}, coins)
            self.assert_missing("b", message_of, encoding, {}, 1, {}, coins)
            self.assert_missing("x", message_of, encoding, owners, 1, {}, coins)
            self.assert_missing("x", message_of, encoding, owners, 1, {"b": 1, "y": 1}, coins)
            self.assert_missing("y", message_of, encoding, owners, 1, {"x": 1, "b": 1}, coins)
            self.assert_missing("b", message_of, encoding, owners, 0, {"x": 1, "y": 1}, coins)
        for coins in ((), (1,), (1,) * (count - 1), (1,) * (count + 1)):
            for party, assignment in ((0, {"b": 1}), (1, {"x": 2, "y": 0}), (2, {})):
                self.assert_raises(
                    WrongLength, {"expected": count},
                    message_of, encoding, owners, party, assignment, coins,
                )

    def test_the_first_missing_value_does_not_depend_on_the_pieces(self):
        # The pieces of y stand before those of a.
        encoding = Encoding(("times", "y", "a"), 3)
        owners = {"a": 0, "y": 0}
        self.assert_missing("a", message_of, encoding, owners, 0, {}, (0,) * 13)
        self.assert_missing("y", message_of, encoding, owners, 0, {"a": 0}, (0,) * 13)


class Referees(PartiesTest):
    def setUp(self):
        self.encoding = Encoding(PRODUCT, 5)
        self.owners = {"x": 2, "y": 1}
        self.coins = some_residues(13, 5, 3)
        self.assignment = {"x": 3, "y": 4}
        self.residues = self.encoding.list_for(self.assignment, self.coins)
        self.messages = all_messages(
            self.encoding, self.owners, 4, self.assignment, self.coins
        )

    def test_messages_in_any_order(self):
        for order in itertools.permutations(range(4)):
            referee = Referee(self.encoding, self.owners, 4)
            for done, party in enumerate(order):
                waiting = sorted(order[done:])
                self.assertEqual(len(referee), done)
                self.assertEqual(referee.missing(), waiting)
                for method in (referee.residues, referee.answer):
                    self.assert_raises(IncompleteMessages, {"parties": tuple(waiting)}, method)
                self.assertIsNone(referee.receive(party, self.messages[party]))
            self.assertEqual((len(referee), referee.missing()), (4, []))
            for _ in range(2):
                self.assertEqual(referee.residues(), self.residues)
                self.assertEqual(referee.answer(), 2)
            self.assertIs(type(referee.residues()), tuple)
            self.assertIs(type(referee.answer()), int)

    def test_all_formulas(self):
        for formula, modulus, count, seed in itertools.product(FORMULAS, (2, 5), (1, 3, 6), range(3)):
            encoding = Encoding(formula, modulus)
            owners = some_owners(formula, count, seed)
            assignment = some_assignment(formula, modulus, seed)
            coins = some_residues(encoding.coin_count(), modulus, seed)
            referee = Referee(encoding, owners, count)
            messages = all_messages(encoding, owners, count, assignment, coins)
            for party in reversed(range(count)):
                referee.receive(party, messages[party])
            self.assertEqual(referee.residues(), encoding.list_for(assignment, coins))
            self.assertEqual(referee.answer(), evaluate_formula(formula, modulus, assignment))

    def test_any_residues(self):
        referee = Referee(Encoding(SUM, 5), {"x": 1, "y": 0}, 2)
        referee.receive(1, (4,))
        referee.receive(0, (1, 2, 3))
        self.assertEqual((referee.residues(), referee.answer()), ((4, 1, 2, 3), 0))

    def test_errors_in_their_order(self):
        referee = Referee(self.encoding, self.owners, 3)
        lengths = {0: 10, 1: 2, 2: 2}
        self.assertEqual([len(message) for message in self.messages], [10, 2, 2, 0])
        for party, message in itertools.product((-1, 3, 4, 10 ** 20, -3), (*self.messages, (0,) * 99)):
            self.assert_raises(UnknownParty, {"party": party}, referee.receive, party, message)
        for party, length in lengths.items():
            for other in {0, length - 1, length + 1, 14} - {length}:
                self.assert_raises(
                    WrongLength, {"expected": length}, referee.receive, party, (1,) * other
                )
        self.assertEqual((len(referee), referee.missing()), (0, [0, 1, 2]))
        referee.receive(1, self.messages[1])
        for message in (self.messages[1], (), (0,), (0, 0), (0,) * 10):
            self.assert_raises(MessageRefused, {"party": 1}, referee.receive, 1, message)
            self.assert_raises(UnknownParty, {"party": 3}, referee.receive, 3, message)
        self.assert_raises(WrongLength, {"expected": 2}, referee.receive, 2, self.messages[0])
        self.assertEqual((len(referee), referee.missing()), (1, [0, 2]))
        referee.receive(2, self.messages[2])
        referee.receive(0, self.messages[0])
        self.assertEqual(referee.residues(), self.residues)
        for party in range(3):
            self.assert_raises(MessageRefused, {"party": party}, referee.receive, party, ())

    def test_a_repeated_empty_message(self):
        referee = Referee(self.encoding, self.owners, 4)
        referee.receive(3, ())
        self.assert_raises(MessageRefused, {"party": 3}, referee.receive, 3, ())
        self.assert_raises(MessageRefused, {"party": 3}, referee.receive, 3, (1,))
        self.assertEqual((len(referee), referee.missing()), (1, [0, 1, 2]))

    def test_a_party_without_pieces_is_missing_too(self):
        referee = Referee(Encoding(0, 5), {}, 2)
        self.assertEqual(referee.missing(), [0, 1])
        referee.receive(0, ())
        self.assert_raises(IncompleteMessages, {"parties": (1,)}, referee.answer)
        referee.receive(1, ())
        self.assertEqual((referee.residues(), referee.answer()), ((), 0))

    def test_one_party(self):
        referee = Referee(self.encoding, {"x": 0, "y": 0}, 1)
        self.assert_raises(UnknownParty, {"party": 1}, referee.receive, 1, ())
        referee.receive(0, self.residues)
        self.assertEqual((referee.residues(), referee.answer()), (self.residues, 2))

    def test_missing_is_a_new_list(self):
        referee = Referee(self.encoding, self.owners, 3)
        found = referee.missing()
        self.assertIs(type(found), list)
        found.clear()
        self.assertEqual(referee.missing(), [0, 1, 2])
        referee.missing().append(9)
        self.assertEqual(referee.missing(), [0, 1, 2])

    def test_owners_changed_afterwards(self):
        referee = Referee(self.encoding, self.owners, 3)
        self.owners["x"] = 1
        del self.owners["y"]
        for party in range(3):
            referee.receive(party, self.messages[party])
        self.assertEqual((referee.residues(), referee.answer()), (self.residues, 2))

    def test_several_referees(self):
        one = Referee(self.encoding, self.owners, 4)
        other = Referee(self.encoding, self.owners, 4)
        third = Referee(Encoding(SUM, 5), self.owners, 4)
        one.receive(0, self.messages[0])
        self.assertEqual((len(one), len(other), len(third)), (1, 0, 0))
        other.receive(0, (0,) * 10)
        third.receive(2, (1,))
        self.assertEqual(one.missing(), [1, 2, 3])
        self.assertEqual(third.missing(), [0, 1, 3])
        for party in (1, 2, 3):
            one.receive(party, self.messages[party])
            other.receive(party, (0,) * len(self.messages[party]))
        self.assertEqual((one.residues(), other.residues()), (self.residues, (0,) * 14))
        self.assertEqual((one.answer(), other.answer()), (2, 0))
        self.assert_raises(IncompleteMessages, {"parties": (0, 1, 3)}, third.answer)


if __name__ == "__main__":
    unittest.main()
