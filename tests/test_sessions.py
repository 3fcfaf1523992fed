"""Tests of maskedlist.sessions: points 17 to 19 and the interface's section on sessions."""

import copy
import inspect
import itertools
import unittest

from maskedlist import sessions
from maskedlist.encoding import Encoding
from maskedlist.errors import InvalidFormula, MissingVariable, UnknownCheckpoint
from maskedlist.formulas import evaluate_formula, formula_error, formula_variables
from maskedlist.sessions import Session, explain_transcript, run_strategy

SUM = ("plus", "x", "y")
PRODUCT = ("times", "x", "y")
DOUBLE = ("plus", "x", "x")
UNUSED = ("plus", ("minus", "b", "b"), "x")
FORMULAS = (0, 1, "x", SUM, PRODUCT, DOUBLE, ("minus", "y", "y"), ("or", "x", "y"), UNUSED)
STOP = ("stop",)


def some_residues(count, modulus, seed):
    """Numbers that look different for each seed, the same in each run."""
    numbers = [(at + 5) ** 3 * 13 + 29 * seed * (at + 2) + seed ** 3 for at in range(count)]
    return tuple(number // 7 % modulus for number in numbers)


class Model:
    """A second reading of point 17, with the requests counted from the transcript."""

    def __init__(self, modulus, assignments, tape):
        self.modulus = modulus
        self.assignments = assignments
        self.tape = list(tape)
        self.names = {}
        self.checkpoints = []
        self.entries = []

    def define(self, name, formula):
        self.names = {**self.names, name: formula}

    def request(self, name):
        answered = len([entry for entry in self.entries if entry[0] == "answered"])
        assignment = (list(self.assignments) + [self.assignments[-1]] * answered)[answered]
        self.entries.append(self.entry(name, assignment))
        return self.entries[-1]

    def entry(self, name, assignment):
        if name not in self.names:
            return ("refused", name, "name")
        formula = self.names[name]
        if set(formula_variables(formula)) - set(assignment):
            return ("refused", name, "value")
        encoding = Encoding(formula, self.modulus)
        if encoding.coin_count() > len(self.tape):
            return ("refused", name, "coins")
        coins = tuple(self.tape.pop(0) for _ in range(encoding.coin_count()))
        return ("answered", formula, encoding.list_for(assignment, coins))

    def save(self):
        self.checkpoints.append(self.names)
        return len(self.checkpoints) - 1

    def restore(self, number):
        self.names = self.checkpoints[number]
        self.checkpoints = self.checkpoints[:number + 1]


class SessionsTest(unittest.TestCase):
    def assert_raises(self, error_class, fields, function, *arguments):
        with self.assertRaises(error_class) as caught:
            function(*arguments)
        self.assertIs(type(caught.exception), error_class)
        self.assertEqual(vars(caught.exception), fields)

    def state(self, session):
        return (session.transcript(), session.left(), session.defined(), len(session))

    def assert_state(self, session, entries, left, names):
        self.assertEqual(self.state(session), (tuple(entries), left, names, len(entries)))


class Interface(SessionsTest):
    def test_functions_and_parameters(self):
        expected = {
            "Session": ["modulus", "assignments", "tape"],
            "run_strategy": ["session", "strategy", "steps"],
            "explain_transcript": ["modulus", "transcript", "assignments"],
        }
        for name, parameters in expected.items():
            with self.subTest(name):
                function = getattr(sessions, name)
                self.assertEqual(function.__module__, "maskedlist.sessions")
                self.assertEqual(list(inspect.signature(function).parameters), parameters)

    def test_methods(self):
        expected = {
            "define": ["name", "formula"], "request": ["name"], "save": [], "restore": ["number"],
            "transcript": [], "left": [], "defined": [],
        }
        session = Session(2, ({},), ())
        for name, parameters in expected.items():
            self.assertIn(name, vars(Session))
            method = getattr(session, name)
            self.assertEqual(list(inspect.signature(method).parameters), parameters)
        self.assertIn("__len__", vars(Session))

    def test_examples(self):
        session = Session(2, ({"x": 1, "y": 1},), (0, 1, 0, 1))
        self.assertIsNone(session.define("f", SUM))
        first = session.request("f")
        self.assertEqual(
            (first, session.request("f"), session.left()),
            (("answered", SUM, (1, 0, 0, 1)), ("refused", "f", "coins"), 1),
        )
        session = Session(2, ({},), ())
        number = session.save()
        session.define("f", 1)
        self.assertIsNone(session.restore(number))
        self.assertEqual(session.defined(), {})
        self.assertEqual(run_strategy(Session(2, ({},), ()), {(): STOP}.get, 3), 1)
        transcript = (("answered", SUM, (1, 0, 0, 1)),)
        found = explain_transcript(2, transcript, ({"x": 0, "y": 0},))
        self.assertEqual(found, ("coins", (1, 0, 1)))
        found = explain_transcript(2, transcript, ({"x": 0, "y": 1},))
        self.assertEqual(found, ("differs", 0, 0, 1))

    def test_keyword_arguments(self):
        session = Session(tape=(0, 1, 0, 1), assignments=({"x": 1, "y": 1},), modulus=2)
        session.define(formula=SUM, name="f")
        self.assertEqual(session.save(), 0)
        self.assertEqual(session.request(name="f"), ("answered", SUM, (1, 0, 0, 1)))
        session.restore(number=0)
        steps = run_strategy(steps=3, strategy=lambda transcript: ("save",), session=session)
        self.assertEqual(steps, 3)
        found = explain_transcript(
            assignments=({"x": 0, "y": 0},), transcript=session.transcript(), modulus=2
        )
        self.assertEqual(found, ("coins", (1, 0, 1)))

    def test_arguments_stay_the_same(self):
        assignments = ({"y": 1, "x": 2, "more": 0}, {"x": 4, "y": 4})
        tape = some_residues(20, 5, 1)
        before = copy.deepcopy((assignments, tape))
        session = Session(5, assignments, tape)
        session.define("f", PRODUCT)
        session.request("f")
        session.request("f")
        session.request("g")
        transcript = session.transcript()
        kept = copy.deepcopy(transcript)
        explain_transcript(5, transcript, assignments)
        explain_transcript(5, transcript, ({"x": 0, "y": 0}, {}))
        self.assertEqual((assignments, tape, transcript), (*before, kept))
        self.assertEqual(list(assignments[0]), ["y", "x", "more"])


class Requests(SessionsTest):
    def test_the_next_assignment_and_the_last_one_again(self):
        assignments = tuple({"x": x} for x in (3, 1, 4))
        session = Session(7, assignments, ())
        session.define("f", "x")
        found = [session.request("f")[2] for _ in range(6)]
        self.assertEqual(found, [(3,), (1,), (4,), (4,), (4,), (4,)])

    def test_one_assignment(self):
        session = Session(7, ({"x": 5},), ())
        session.define("f", "x")
        self.assertEqual([session.request("f")[2] for _ in range(3)], [(5,)] * 3)

    def test_the_next_coins(self):
        tape = some_residues(40, 5, 2)
        session = Session(5, ({"x": 2, "y": 3},), tape)
        used = 0
        entries = []
        formulas = {"f": SUM, "g": PRODUCT, "h": 1, "i": ("minus", "x", "x")}
        for name, formula in formulas.items():
            session.define(name, formula)
        for name in "fghifigfh":
            encoding = Encoding(formulas[name], 5)
            coins = tape[used:used + encoding.coin_count()]
            used += encoding.coin_count()
            expected = ("answered", formulas[name], encoding.list_for({"x": 2, "y": 3}, coins))
            entry = session.request(name)
            self.assertEqual(entry, expected)
            self.assertIs(type(entry), tuple)
            entries.append(entry)
            self.assert_state(session, entries, 40 - used, formulas)
        self.assertEqual(used, 35)

    def test_exactly_enough_coins(self):
        for length in range(6):
            session = Session(2, ({"x": 1, "y": 1},), (1,) * length)
            session.define("f", SUM)
            expected = "answered" if length >= 3 else "refused"
            self.assertEqual(session.request("f")[0], expected)
            self.assertEqual(session.left(), length - 3 if length >= 3 else length)

    def test_the_reasons_in_their_order(self):
        # No name, no value and no coins; then the name; then the value; then the coins.
        session = Session(3, ({"x": 1},), (1, 1))
        self.assertEqual(session.request("f"), ("refused", "f", "name"))
        session.define("f", SUM)
        self.assertEqual(session.request("f"), ("refused", "f", "value"))
        session.define("f", ("plus", "x", 1))
        self.assertEqual(session.request("f"), ("refused", "f", "coins"))
        session.define("f", "x")
        self.assertEqual(session.request("f"), ("answered", "x", (1,)))
        self.assertEqual(session.request("g"), ("refused", "g", "name"))
        self.assertEqual((session.left(), len(session)), (2, 5))

    def test_refused_requests_take_nothing(self):
        assignments = ({"x": 1}, {"y": 2}, {"x": 3, "y": 4})
        session = Session(5, assignments, (1, 2, 3, 4))
        session.define("f", "x")
        session.define("g", "y")
        session.define("h", SUM)
        self.assertEqual(session.request("g"), ("refused", "g", "value"))
        self.assertEqual(session.request("nothing"), ("refused", "nothing", "name"))
        self.assertEqual(session.request("f"), ("answered", "x", (1,)))
        self.assertEqual(session.request("f"), ("refused", "f", "value"))
        self.assertEqual(session.request("h"), ("refused", "h", "value"))
        self.assertEqual(session.left(), 4)
        self.assertEqual(session.request("g"), ("answered", "y", (2,)))
        expected = Encoding(SUM, 5).list_for(assignments[2], (1, 2, 3))
        self.assertEqual(session.request("h"), ("answered", SUM, expected))
        self.assertEqual(session.request("h"), ("refused", "h", "coins"))
        self.assertEqual(session.request("f"), ("answered", "x", (3,)))
        self.assertEqual((session.left(), len(session)), (1, 9))

    def test_a_variable_without_influence_is_required(self):
        session = Session(5, ({"x": 1},), (1,) * 9)
        session.define("f", UNUSED)
        session.define("g", ("minus", "y", "y"))
        self.assertEqual(session.request("f"), ("refused", "f", "value"))
        self.assertEqual(session.request("g"), ("refused", "g", "value"))

    def test_names_that_get_a_new_formula(self):
        session = Session(5, ({"x": 1, "y": 3},), ())
        session.define("f", "x")
        first = session.request("f")
        session.define("f", "y")
        second = session.request("f")
        session.define("f", 4)
        self.assertEqual(session.defined(), {"f": 4})
        third = session.request("f")
        entries = [("answered", "x", (1,)), ("answered", "y", (3,)), ("answered", 4, (4,))]
        self.assertEqual([first, second, third], entries)
        self.assert_state(session, entries, 0, {"f": 4})

    def test_names_that_are_words_of_the_program(self):
        session = Session(5, ({"x": 1},), ())
        for at, name in enumerate(("x", "plus", "stop", "name", "", "a long name")):
            session.define(name, at % 5)
            self.assertEqual(session.request(name)[1], at % 5)
        self.assertEqual(len(session.defined()), 6)

    def test_compared_with_a_second_reading(self):
        for modulus, seed in itertools.product((2, 7, 1000), range(12)):
            assignments = tuple(
                {"x": 1, "y": at, "b": 1} if (at + seed) % 4 else {"x": at} for at in range(1 + seed % 5)
            )
            tape = some_residues(25 + 5 * seed, modulus, seed)
            session = Session(modulus, assignments, tape)
            model = Model(modulus, assignments, tape)
            for at, mark in enumerate(some_residues(60, 11, seed)):
                self.assert_same_step(session, model, mark, at)
                self.assert_state(session, model.entries, len(model.tape), model.names)

    def assert_same_step(self, session, model, mark, at):
        name = "fgh"[at % 3]
        if mark < 3:
            formula = FORMULAS[(at + mark) % len(FORMULAS)]
            self.assertIsNone(session.define(name, formula))
            model.define(name, formula)
        elif mark < 7:
            self.assertEqual(session.request(name), model.request(name))
        elif mark < 9:
            self.assertEqual(session.save(), model.save())
        elif at % 5 < len(model.checkpoints):
            self.assertIsNone(session.restore(at % 5))
            model.restore(at % 5)
        else:
            self.assert_raises(UnknownCheckpoint, {"number": at % 5}, session.restore, at % 5)


class Definitions(SessionsTest):
    def test_invalid_formulas(self):
        session = Session(5, ({"x": 1},), (1, 2, 3))
        session.define("f", "x")
        session.save()
        before = self.state(session)
        deep = "x"
        for _ in range(13):
            deep = ("not", deep)
        for value in (
            5, -1, True, None, "", "X", [], {}, (), ("plus", "x"), ["plus", "x", "y"],
            ("plus", "x", ["y"]), ("times", ("or", 1, None), 7), {"x": 1}, deep,
        ):
            for name in ("f", "g"):
                reason = formula_error(value, 5)
                self.assertIsNotNone(reason)
                self.assert_raises(InvalidFormula, {"reason": reason}, session.define, name, value)
                self.assertEqual(self.state(session), before)
        self.assertEqual(session.request("f"), ("answered", "x", (1,)))

    def test_defined_is_new_for_each_call(self):
        session = Session(5, ({"x": 1},), ())
        session.define("f", "x")
        found = session.defined()
        self.assertIs(type(found), dict)
        found["f"] = 3
        found["g"] = 4
        del session.defined()["f"]
        self.assertEqual(session.defined(), {"f": "x"})
        self.assertEqual(session.request("f"), ("answered", "x", (1,)))
        self.assertEqual(session.request("g"), ("refused", "g", "name"))


class Checkpoints(SessionsTest):
    def test_numbers(self):
        session = Session(5, ({},), ())
        self.assertEqual([session.save() for _ in range(4)], [0, 1, 2, 3])
        session.restore(1)
        self.assertEqual(session.save(), 2)
        session.restore(2)
        self.assertEqual(session.save(), 3)
        session.restore(0)
        self.assertEqual([session.save(), session.save()], [1, 2])

    def test_unknown_checkpoints(self):
        session = Session(5, ({},), ())
        session.define("f", 1)
        for number in (-1, 0, 1, 10 ** 20):
            self.assert_raises(UnknownCheckpoint, {"number": number}, session.restore, number)
        for _ in range(3):
            session.save()
        session.define("f", 2)
        for number in (-1, -2, -3, 3, 4, 10 ** 20):
            self.assert_raises(UnknownCheckpoint, {"number": number}, session.restore, number)
        self.assertEqual(session.defined(), {"f": 2})
        session.restore(1)
        for number in (-1, 2, 3):
            self.assert_raises(UnknownCheckpoint, {"number": number}, session.restore, number)
        self.assertEqual(session.defined(), {"f": 1})
        self.assertEqual(session.save(), 2)
        session.restore(2)

    def test_what_a_checkpoint_brings_back(self):
        session = Session(5, ({"x": 1}, {"x": 2}, {"x": 3}), (1, 1, 1, 2, 2, 2, 3))
        session.define("f", "x")
        session.define("g", ("plus", "x", 1))
        self.assertEqual(session.save(), 0)
        first = session.request("g")
        session.define("f", 4)
        session.define("h", 0)
        self.assertEqual(session.save(), 1)
        session.define("g", 3)
        session.restore(1)
        self.assertEqual(session.defined(), {"f": 4, "g": ("plus", "x", 1), "h": 0})
        session.restore(0)
        self.assert_state(session, [first], 4, {"f": "x", "g": ("plus", "x", 1)})
        self.assertEqual(session.request("h"), ("refused", "h", "name"))
        expected = Encoding(("plus", "x", 1), 5).list_for({"x": 2}, (2, 2, 2))
        self.assertEqual(session.request("g"), ("answered", ("plus", "x", 1), expected))
        self.assertEqual(session.request("f"), ("answered", "x", (3,)))
        self.assertEqual((session.left(), len(session)), (1, 4))

    def test_a_checkpoint_is_restored_again_and_again(self):
        session = Session(5, ({},), ())
        session.define("f", 1)
        session.save()
        for formula in (2, 3, 4):
            session.define("f", formula)
            session.define("g", formula)
            session.restore(0)
            self.assertEqual(session.defined(), {"f": 1})


class Copies(SessionsTest):
    def test_assignments_changed_afterwards(self):
        assignments = [{"x": 1}, {"x": 2}]
        tape = [1, 2, 3]
        session = Session(5, assignments, tape)
        session.define("f", "x")
        assignments[0]["x"] = 4
        del assignments[1]["x"]
        assignments.append({"x": 0})
        tape.clear()
        self.assertEqual([session.request("f")[2] for _ in range(3)], [(1,), (2,), (2,)])
        self.assertEqual(session.left(), 3)

    def test_the_transcript_is_a_tuple_of_its_own_time(self):
        session = Session(5, ({"x": 1},), ())
        session.define("f", "x")
        before = session.transcript()
        session.request("f")
        self.assertEqual((before, len(session.transcript())), ((), 1))
        self.assertIs(type(session.transcript()), tuple)

    def test_several_sessions(self):
        assignments = ({"x": 1}, {"x": 2})
        one = Session(5, assignments, (1, 2, 3))
        other = Session(5, assignments, (1, 2, 3))
        one.define("f", ("plus", "x", 1))
        one.save()
        one.request("f")
        self.assert_state(other, [], 3, {})
        self.assert_raises(UnknownCheckpoint, {"number": 0}, other.restore, 0)
        other.define("f", "x")
        self.assertEqual(other.request("f"), ("answered", "x", (1,)))
        self.assertEqual(one.defined(), {"f": ("plus", "x", 1)})
        self.assertEqual((one.left(), other.left()), (0, 3))


class Strategies(SessionsTest):
    def listed(self, actions, seen=None):
        """A strategy that performs these actions one after the other, then stops."""
        waiting = list(actions)

        def strategy(transcript):
            if seen is not None:
                seen.append(transcript)
            return waiting.pop(0) if waiting else STOP

        return strategy

    def test_each_action(self):
        session = Session(5, ({"x": 1},), ())
        actions = [
            ("define", "f", "x"), ("request", "f"), ("save",), ("define", "f", 3), ("request", "f"),
            ("restore", 0), ("request", "f"), ("request", "g"), STOP, ("request", "f"),
        ]
        self.assertEqual(run_strategy(session, self.listed(actions), 20), 9)
        entries = [
            ("answered", "x", (1,)), ("answered", 3, (3,)), ("answered", "x", (1,)),
            ("refused", "g", "name"),
        ]
        self.assert_state(session, entries, 0, {"f": "x"})
        self.assertEqual(session.save(), 1)

    def test_names_and_formulas_that_are_words_of_actions(self):
        words = ("stop", "save", "define")
        session = Session(5, ({word: 2 for word in words},), ())
        actions = []
        for word in words:
            actions.extend([("define", word, word), ("request", word), ("define", "f", word)])
        self.assertEqual(run_strategy(session, self.listed(actions), 20), 10)
        self.assertEqual(
            session.transcript(), tuple(("answered", word, (2,)) for word in words)
        )
        self.assertEqual(session.defined(), {**{word: word for word in words}, "f": "define"})
        self.assertEqual(session.save(), 0)

    def test_the_number_of_steps(self):
        actions = [("define", "f", 1), ("save",), ("request", "f"), ("restore", 0), ("request", "f")]
        for steps in range(9):
            session = Session(5, ({},), ())
            performed = run_strategy(session, self.listed(actions), steps)
            self.assertIs(type(performed), int)
            # Five actions and the stop.
            self.assertEqual(performed, min(steps, 6))
            self.assertEqual(len(session), (0, 0, 0, 1, 1, 2, 2, 2, 2)[steps])
            self.assertEqual(session.defined(), {"f": 1} if steps else {})

    def test_no_steps(self):
        def strategy(transcript):
            raise AssertionError("called")

        session = Session(5, ({},), ())
        self.assertEqual(run_strategy(session, strategy, 0), 0)
        self.assert_state(session, [], 0, {})

    def test_one_call_for_each_action(self):
        for steps, calls in ((1, 1), (2, 2), (3, 3), (4, 4), (5, 4), (50, 4)):
            seen = []
            strategy = self.listed([("define", "f", 1), ("request", "f"), ("request", "g")], seen)
            self.assertEqual(run_strategy(Session(5, ({},), ()), strategy, steps), calls)
            self.assertEqual(len(seen), calls)

    def test_the_transcript_that_the_strategy_is_given(self):
        seen = []
        session = Session(5, ({},), ())
        session.define("h", 2)
        before = session.request("h")
        actions = [("define", "f", 1), ("request", "f"), ("request", "g"), ("save",)]
        run_strategy(session, self.listed(actions, seen), 9)
        one, two = ("answered", 1, (1,)), ("refused", "g", "name")
        expected = [(before,)] * 2 + [(before, one)] + [(before, one, two)] * 2
        self.assertEqual(seen, expected)
        for transcript in seen:
            self.assertIs(type(transcript), tuple)

    def test_actions_that_depend_on_the_transcript(self):
        def strategy(transcript):
            if not transcript:
                return ("request", "f")
            residues = transcript[-1][2]
            return STOP if residues == (2,) else ("request", "f")

        session = Session(5, ({"x": 4}, {"x": 0}, {"x": 2}, {"x": 1}), ())
        session.define("f", "x")
        self.assertEqual(run_strategy(session, strategy, 30), 4)
        self.assertEqual([entry[2] for entry in session.transcript()], [(4,), (0,), (2,)])

    def test_errors_of_actions(self):
        for action, error_class, fields in (
            (("define", "f", ("plus", "x")), InvalidFormula, {"reason": ("form", ())}),
            (("restore", 1), UnknownCheckpoint, {"number": 1}),
            (("restore", -1), UnknownCheckpoint, {"number": -1}),
        ):
            actions = [("define", "f", 3), ("request", "f"), ("save",), action, ("request", "f")]
            session = Session(5, ({},), (1,))
            strategy = self.listed(actions)
            self.assert_raises(error_class, fields, run_strategy, session, strategy, 9)
            self.assert_state(session, [("answered", 3, (3,))], 1, {"f": 3})
            self.assertEqual(session.save(), 1)

    def test_errors_of_the_strategy(self):
        class Bad(Exception):
            pass

        def strategy(transcript):
            if len(transcript) == 2:
                raise Bad("two entries")
            return ("request", "f")

        session = Session(5, ({},), (1,))
        session.define("f", 4)
        with self.assertRaises(Bad):
            run_strategy(session, strategy, 9)
        self.assert_state(session, [("answered", 4, (4,))] * 2, 1, {"f": 4})
        with self.assertRaises(KeyError):
            run_strategy(Session(5, ({},), ()), {}.__getitem__, 1)

    def test_runs_one_after_the_other(self):
        session = Session(5, ({},), ())
        strategy = self.listed([("define", "f", 1), ("request", "f"), ("request", "f")])
        self.assertEqual([run_strategy(session, strategy, 2) for _ in range(3)], [2, 2, 1])
        self.assertEqual(len(session), 2)


class Explanations(SessionsTest):
    def session(self, modulus, assignments, tape, names):
        session = Session(modulus, assignments, tape)
        for name, formula in (("f", SUM), ("g", PRODUCT), ("h", ("minus", "x", "x")), ("i", 1)):
            session.define(name, formula)
        for name in names:
            session.request(name)
        return session

    def test_the_assignments_of_the_session(self):
        for modulus, seed in itertools.product((2, 3, 7, 1000), range(5)):
            assignments = tuple(
                dict(zip("xy", some_residues(2, modulus, seed + at), strict=True)) for at in range(4)
            )
            tape = some_residues(60, modulus, seed)
            session = self.session(modulus, assignments, tape, "fzgzhifggf")
            # Seven requests are answered, then the tape is too short.
            reasons = [entry[0] for entry in session.transcript()]
            used = tuple((*assignments, *assignments[-1:] * 9)[:reasons.count("answered")])
            found = explain_transcript(modulus, session.transcript(), used)
            self.assertEqual(found, ("coins", tape[:60 - session.left()]))
            self.assertEqual(reasons.count("refused"), 3 - (session.left() >= 3))

    def test_other_assignments_with_the_same_answers(self):
        tape = some_residues(60, 7, 2)
        names = "fzgyhigf"
        session = self.session(7, ({"x": 2, "y": 3}, {"x": 3, "y": 4}, {"x": 5, "y": 1}), tape, names)
        # The sum 5, the product 5, anything, anything, the product 5, the sum 6.
        others = (
            {"x": 0, "y": 5}, {"x": 1, "y": 5}, {"x": 6, "y": 6}, {"x": 1, "y": 2},
            {"x": 4, "y": 3}, {"y": 0, "x": 6},
        )
        verdict, coins = explain_transcript(7, session.transcript(), others)
        self.assertEqual((verdict, len(coins)), ("coins", 60 - session.left()))
        self.assertIs(type(coins), tuple)
        for rest in ((), tape[len(coins):], (1, 2, 3)):
            other = self.session(7, others, coins + rest, names)
            self.assertEqual(other.transcript(), session.transcript())
            self.assertEqual(other.left(), len(rest))

    def test_all_assignments_of_two_requests(self):
        tape = some_residues(16, 3, 1)
        session = self.session(3, ({"x": 1, "y": 1}, {"x": 2, "y": 0}), tape, "f?g")
        transcript = session.transcript()
        points = [{"x": x, "y": y} for x, y in itertools.product(range(3), repeat=2)]
        answers = (2, 0)
        for one, other in itertools.product(points, repeat=2):
            found = explain_transcript(3, transcript, (one, other))
            own = (evaluate_formula(SUM, 3, one), evaluate_formula(PRODUCT, 3, other))
            if own[0] != 2:
                self.assertEqual(found, ("differs", 0, 2, own[0]))
            elif own[1] != 0:
                self.assertEqual(found, ("differs", 2, 0, own[1]))
            else:
                self.assertEqual(own, answers)
                again = self.session(3, (one, other), found[1], "f?g")
                self.assertEqual((again.transcript(), again.left()), (transcript, 0))

    def test_every_strategy_makes_the_same_run(self):
        def strategy(transcript):
            if not transcript:
                return ("request", "f")
            if len(transcript) > 6:
                return STOP
            kind, _, what = transcript[-1]
            if kind == "refused":
                return ("request", "fg"[len(transcript) % 2])
            return ("request", "fgz"[sum(what) % 3])

        for seed in range(20):
            tape = some_residues(40, 5, seed)
            assignments = ({"x": 1, "y": 3}, {"x": 2, "y": 2})
            session = self.session(5, assignments, tape, "")
            steps = run_strategy(session, strategy, 30)
            transcript = session.transcript()
            answered = [entry for entry in transcript if entry[0] == "answered"]
            others = []
            for at, (_, formula, _) in enumerate(answered):
                own = evaluate_formula(formula, 5, assignments[min(at, 1)])
                points = [{"x": x, "y": y} for x, y in itertools.product(range(5), repeat=2)]
                same = [point for point in points if evaluate_formula(formula, 5, point) == own]
                others.append(same[(3 * seed + at) % len(same)])
            verdict, coins = explain_transcript(5, transcript, tuple(others))
            self.assertEqual(verdict, "coins")
            again = self.session(5, tuple(others), coins + tape[len(coins):], "")
            self.assertEqual(run_strategy(again, strategy, 30), steps)
            self.assertEqual(self.state(again), self.state(session))

    def test_fewer_assignments_for_the_session(self):
        tape = some_residues(9, 5, 3)
        session = self.session(5, ({"x": 1, "y": 3},), tape, "fff")
        for others in (({"x": 4, "y": 0},) * 3, ({"x": 4, "y": 0}, {"x": 0, "y": 4}, {"x": 2, "y": 2})):
            verdict, coins = explain_transcript(5, session.transcript(), others)
            self.assertEqual(verdict, "coins")
            again = self.session(5, others, coins, "fff")
            self.assertEqual(again.transcript(), session.transcript())
        again = self.session(5, others[:1], explain_transcript(
            5, session.transcript(), others[:1] * 3
        )[1], "fff")
        self.assertEqual(again.transcript(), session.transcript())

    def test_transcripts_that_no_session_made(self):
        refused = ("refused", "f", "coins")
        transcript = (
            refused, ("answered", "x", (3,)), refused, refused, ("answered", SUM, (1, 2, 3, 4)),
            ("refused", "no name at all", "name"), ("answered", 0, ()), refused,
        )
        good = ({"x": 3}, {"x": 1, "y": 4}, {})
        expected = ("coins", Encoding(SUM, 5).coins_for(good[1], (1, 2, 3, 4)))
        self.assertEqual(explain_transcript(5, transcript, good), expected)
        self.assertEqual(explain_transcript(5, transcript, list(good)), expected)
        for assignments, difference in (
            (({"x": 4}, good[1], {}), ("differs", 1, 3, 4)),
            (({"x": 4}, {"x": 0, "y": 0}, {}), ("differs", 1, 3, 4)),
            (({"x": 3}, {"x": 0, "y": 1}, {}), ("differs", 4, 0, 1)),
        ):
            self.assertEqual(explain_transcript(5, transcript, assignments), difference)
        transcript = transcript[:-2] + (("answered", 2, (4,)),)
        self.assertEqual(explain_transcript(5, transcript, good), ("differs", 6, 4, 2))

    def test_missing_variables(self):
        transcript = (
            ("answered", "x", (3,)), ("refused", "f", "name"), ("answered", SUM, (1, 2, 3, 4)),
            ("answered", ("plus", UNUSED, "a"), (1, 2, 3, 4)),
        )
        last = {"x": 1, "a": 4, "b": 0}
        good = ({"x": 3}, {"x": 1, "y": 4}, last)
        self.assertEqual(explain_transcript(5, transcript, good)[0], "coins")
        for assignments, name in (
            (({}, good[1], last), "x"),
            (({"y": 3}, {"x": 0, "y": 0}, {}), "x"),
            ((good[0], {"x": 1}, last), "y"),
            ((good[0], {"a": 0}, {}), "x"),
            ((good[0], good[1], {"x": 1}), "a"),
            ((good[0], good[1], {"x": 1, "a": 4}), "b"),
            ((good[0], good[1], {"a": 0, "b": 0}), "x"),
        ):
            self.assert_raises(
                MissingVariable, {"name": name}, explain_transcript, 5, transcript, assignments
            )
        for assignments, difference in (
            (({"x": 2}, {}, {}), ("differs", 0, 3, 2)),
            (({"x": 3}, {"x": 1, "y": 3}, {}), ("differs", 2, 0, 4)),
            ((good[0], good[1], {**last, "a": 3}), ("differs", 3, 0, 4)),
        ):
            self.assertEqual(explain_transcript(5, transcript, assignments), difference)

    def test_the_empty_transcript(self):
        for modulus in (2, 1000):
            self.assertEqual(explain_transcript(modulus, (), ()), ("coins", ()))
            refused = (("refused", "f", "name"), ("refused", "f", "coins"))
            self.assertEqual(explain_transcript(modulus, refused, ()), ("coins", ()))


class SomewhatBeyondTheLimits(SessionsTest):
    def test_no_assignments(self):
        session = Session(5, (), (1, 2, 3))
        session.define("f", 4)
        session.define("g", "x")
        self.assertEqual(session.request("f"), ("answered", 4, (4,)))
        self.assertEqual(session.request("g"), ("refused", "g", "value"))

    def test_numbers_beyond_the_residues(self):
        session = Session(5, ({"x": 6, "y": -2},), (-4, 7, 5))
        session.define("f", SUM)
        expected = Encoding(SUM, 5).list_for({"x": 1, "y": 3}, (1, 2, 0))
        self.assertEqual(session.request("f"), ("answered", SUM, expected))


if __name__ == "__main__":
    unittest.main()
