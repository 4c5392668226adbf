"""Outcomes of runs, the first claims that they break, and where sharing and copying part."""

import random
import unittest

import samples
from lentcells.code.functions import Function
from lentcells.code.programs import Program
from lentcells.errors import InvalidNumber, InvalidOperation, InvalidProgram, InvalidSituation, UnknownName
from lentcells.loans.tables import unsound
from lentcells.runs.breaks import first_break, outcome, parting
from lentcells.runs.runs import Run
from lentcells.world.situations import Situation
from making import BOTH, FALSE, FILL, OUTER, SHARED, TRUE, TWICE, TWO, UP, Maker, one_function, words_in
from plain_runs import PlainRun
from samples import JUNK, SHOWN, deep_junk, plain_truth

ZEROS = Situation(OUTER.start_frame, {"c": (0, 0)}, {}, {})
BEGIN = Situation(FILL.start_frame, {"a": (4, 5, 6)}, {}, {"x": 7})
COUNTS = (-1, True, False, None, "1", (), (1,), [], 10001, 10 ** 60, FILL)
STILL = ("move", "i", ("i", 0))


def counting(rows=(), **passed):
    """A program of one function f with an array a and a local position i."""
    return one_function(arrays=(("full", "a", "n", "w"),), places=("i",), rows=rows, **passed)


def start(made, *row):
    """A situation of the start frame of f, with these cells."""
    return Situation(made["f"].start_frame, {"a": row}, {}, {})


def at_least(number):
    """The claim that the local position is at least so great."""
    return ("pos", "<=", ("", number), ("i", 0))


class OutcomeTest(unittest.TestCase):
    """How runs end."""

    def test_as_many_steps_as_a_run_needs(self):
        run = Run(BOTH, "fill", BEGIN)
        run.advance_on()
        self.assertEqual(10, len(run))
        for most in (10, 11, 100, 10000):
            self.assertEqual(("end", run.situation, 10), outcome(BOTH, "fill", BEGIN, most=most))
        for most in (0, 1, 9):
            self.assertEqual(("long", most), outcome(BOTH, "fill", BEGIN, most=most))
        self.assertEqual({"a": (7, 7, 7), "old": (4, 5, 6)}, outcome(BOTH, "fill", BEGIN)[1].rows)
        self.assertEqual(FILL.end_frame, outcome(BOTH, "fill", BEGIN)[1].frame)

    def test_a_function_without_rows(self):
        made = counting()
        for most in (0, 1):
            kind, situation, steps = outcome(made, "f", start(made, 4), most=most)
            self.assertEqual(("end", {"a": (4,), "w": (4,)}, 0), (kind, situation.rows, steps))

    def test_faults_of_each_kind(self):
        rows = {
            "outside": (("write", "a", "n", 0, ("", 1)), ("outside", "a")),
            "empty": (("write", "r", "", 0, ("", 1)), ("empty", "r")),
            "ended": (("write", "r", "", 0, ("", 1)), ("ended", "r")),
        }
        for kind, (row, fault) in rows.items():
            ahead = (("lend", "r", "a"), ("write", "a", "", 0, ("", 5))) if kind == "ended" else (STILL, STILL)
            made = counting(rows=(*ahead, row), loans=(("full", "r", "n"),))
            self.assertEqual(("fault", "f", 2, fault, 2), outcome(made, "f", start(made, 4)))
            # What comes behind the last step counts.
            self.assertEqual(("fault", "f", 2, fault, 2), outcome(made, "f", start(made, 4), most=2))
            self.assertEqual(("long", 1), outcome(made, "f", start(made, 4), most=1))
        self.assertEqual(("fault", "twice", 1, ("argument", 0), 1), outcome(SHARED, "twice", ZEROS))
        self.assertEqual("end", outcome(SHARED, "twice", ZEROS, careless=True)[0])

    def test_a_fault_of_the_first_row(self):
        made = counting(rows=(("write", "a", "i", 0, ("", 1)),))
        self.assertEqual(("fault", "f", 0, ("outside", "a"), 0), outcome(made, "f", start(made), most=0))

    def test_runs_that_go_on(self):
        made = counting(rows=(("while", TRUE, (("move", "i", ("i", 1)),)),), notes=((),))
        for most in (0, 1, 7, 10000):
            self.assertEqual(("long", most), outcome(made, "f", start(made), most=most))
        empty = counting(rows=(("while", TRUE, ()),), notes=((),))
        self.assertEqual(("long", 10000), outcome(empty, "f", start(empty), most=10000))
        deep = counting(rows=(("call", "f", ("a",), (), ()),))
        self.assertEqual(("long", 10000), outcome(deep, "f", start(deep), most=10000, copying=False))

    def test_the_end_of_an_inner_function_behind_the_last_step(self):
        # The call of g is the first step, its only row the second one, behind which both functions end.
        inner = Function("g", arrays=(("full", "b", "m", "v"),), rows=(("write", "b", "", 0, ("", 9)),))
        outer = Function("f", arrays=(("full", "a", "n", "w"),), rows=(("call", "g", ("a",), (), ()),))
        made = Program((inner, outer))
        for copying in (False, True):
            self.assertEqual(("long", 1), outcome(made, "f", start(made, 4), most=1, copying=copying))
            kind, situation, steps = outcome(made, "f", start(made, 4), most=2, copying=copying)
            self.assertEqual(("end", {"a": (9,), "w": (4,)}, 2), (kind, situation.rows, steps))

    def test_wrong_arguments(self):
        for call in (outcome, first_break, parting):
            for value in JUNK + (deep_junk(), FILL):
                with self.assertRaises(InvalidProgram):
                    call(value, None, None, most=None)
                with self.assertRaises(UnknownName) as caught:
                    call(BOTH, value, None, most=None)
                self.assertEqual(value, caught.exception.name)
                with self.assertRaises(InvalidSituation):
                    call(BOTH, "fill", value, most=None)
            with self.assertRaises(InvalidSituation):
                call(BOTH, "twice", BEGIN)
            for value in COUNTS:
                with self.assertRaises(InvalidNumber) as caught:
                    call(BOTH, "fill", BEGIN, most=value)
                self.assertIs(value, caught.exception.number)
            call(BOTH, "fill", BEGIN, most=10000)
        for value in (0, 1, None, "", ()):
            for keyword in ("copying", "careless"):
                with self.assertRaises(InvalidOperation):
                    outcome(BOTH, "fill", BEGIN, most=-1, **{keyword: value})

    def test_positional_arguments(self):
        for call in (outcome, first_break, parting):
            with self.assertRaises(TypeError):
                call(BOTH, "fill", BEGIN, 5)


class FirstBreakTest(unittest.TestCase):
    """The first claim that is false."""

    def test_nothing(self):
        self.assertIsNone(first_break(BOTH, "fill", BEGIN))
        self.assertIsNone(first_break(BOTH, "twice", Situation(TWICE.start_frame, {"b": (1, 2), "c": (3, 4)}, {}, {})))

    def test_before(self):
        made = counting(before=(TRUE, FALSE, FALSE), rows=(("write", "a", "n", 0, ("", 1)),), after=(FALSE,))
        self.assertEqual(("before", "f", 1), first_break(made, "f", start(made), most=0))
        less = ("val", "<", ("a", "", 0, 0), ("", 0))
        made = counting(before=(less,))
        self.assertEqual(("before", "f", 0), first_break(made, "f", start(made, 4)))
        self.assertIsNone(first_break(made, "f", start(made, -4)))

    def test_before_of_a_called_function(self):
        inner = TWO.with_contract((("val", "==", ("a", "", 0, 0), ("b", "", 0, -1)),), ())
        outer = Function("f", arrays=(("full", "c", "m", "cc"), ("full", "d", "m", "dd")),
                         rows=(("call", "two", ("c", "d"), (), ()), ("call", "two", ("d", "c"), (), ())))
        made = Program((inner, outer))
        begin = Situation(outer.start_frame, {"c": (1, 0), "d": (2, 0)}, {}, {})
        # The second call hands over what the first one has written.
        self.assertEqual(("before", "two", 0), first_break(made, "f", begin))
        self.assertEqual(("before", "two", 0), first_break(made, "f", begin, most=4))
        self.assertIsNone(first_break(made, "f", begin, most=3))

    def test_notes_at_the_first_and_at_a_later_coming(self):
        loop = ("while", UP, (("move", "i", ("i", 1)),))
        for note, most, expected in ((("not", at_least(0)), 0, ("note", "f", 0, 1)), (("not", at_least(2)), 4, ("note", "f", 0, 1)),
                                     (("not", at_least(2)), 3, None), (("not", at_least(9)), 100, None)):
            made = counting(rows=(loop,), notes=((TRUE, note),))
            self.assertEqual(expected, first_break(made, "f", start(made, 0, 0, 0), most=most))

    def test_notes_behind_the_last_time(self):
        # The loop is left when i is 2, and a note of its last coming is looked at, too.
        made = counting(rows=(("while", UP, (("move", "i", ("i", 1)),)), STILL), notes=((("not", at_least(2)),),))
        self.assertEqual(("note", "f", 0, 0), first_break(made, "f", start(made, 0, 0)))

    def test_the_number_of_the_loop(self):
        rows = (("while", FALSE, ()), ("while", UP, (("while", FALSE, ()), ("move", "i", ("i", 1)))))
        made = counting(rows=rows, notes=((), (), (TRUE, ("not", at_least(1)))))
        self.assertEqual(("note", "f", 2, 1), first_break(made, "f", start(made, 0, 0)))

    def test_after_of_an_inner_function_first(self):
        inner = Function("g", arrays=(("full", "b", "m", "v"),), rows=(("write", "b", "", 0, ("", 9)),), after=(TRUE, FALSE))
        outer = Function("f", arrays=(("full", "a", "n", "w"),), rows=(("call", "g", ("a",), (), ()),), after=(FALSE,))
        made = Program((inner, outer))
        self.assertIsNone(first_break(made, "f", start(made, 4), most=1))
        self.assertEqual(("after", "g", 1), first_break(made, "f", start(made, 4), most=2))
        right = Program((inner.with_contract((), ()), outer))
        self.assertEqual(("after", "f", 0), first_break(right, "f", start(right, 4), most=2))

    def test_after_knows_what_was(self):
        claim = ("val", "==", ("a", "", 0, 0), ("w", "", 0, 1))
        made = counting(rows=(("write", "a", "", 0, ("a", "", 0, 1)),), after=(claim,))
        self.assertIsNone(first_break(made, "f", start(made, 4)))
        made = counting(rows=(("write", "a", "", 0, ("a", "", 0, 2)),), after=(claim,))
        self.assertEqual(("after", "f", 0), first_break(made, "f", start(made, 4)))

    def test_a_function_without_rows(self):
        made = counting(before=(TRUE,), after=(FALSE,))
        self.assertEqual(("after", "f", 0), first_break(made, "f", start(made), most=0))
        inner = Function("g", arrays=(("look", "b", "m"),), before=(FALSE,), after=(FALSE,))
        outer = Function("f", arrays=(("full", "a", "n", "w"),), rows=(("call", "g", ("a",), (), ()),), after=(FALSE,))
        for part, expected in ((inner, ("before", "g", 0)), (inner.with_contract((), (FALSE,)), ("after", "g", 0)),
                               (inner.with_contract((), ()), ("after", "f", 0))):
            made = Program((part, outer))
            self.assertIsNone(first_break(made, "f", start(made), most=0))
            self.assertEqual(expected, first_break(made, "f", start(made), most=1))

    def test_notes_whose_names_have_a_fault(self):
        loop = ("while", ("val", "<", ("a", "", 0, 0), ("", 0)), ())
        note = ("val", "<", ("r", "", 0, 0), ("r", "", 0, 0))
        empty = counting(rows=(loop,), notes=((note,),), loans=(("look", "r", "n"),))
        self.assertEqual(("fault", "f", 0, ("empty", "r")), first_break(empty, "f", start(empty, 4)))
        rows = (("lend", "r", "a"), ("write", "a", "", 0, ("", 1)), loop)
        ended = counting(rows=rows, notes=((FALSE, note),), loans=(("look", "r", "n"),))
        self.assertEqual(("fault", "f", 2, ("ended", "r")), first_break(ended, "f", start(ended, 4)))
        held = counting(rows=(rows[0], loop), notes=((note,),), loans=(("look", "r", "n"),))
        self.assertEqual(("note", "f", 0, 0), first_break(held, "f", start(held, 4)))

    def test_notes_come_ahead_of_other_faults(self):
        # The condition reads outside, or an empty loan that the note does not name.
        for condition, fault in ((("val", "<", ("a", "n", 0, 0), ("", 0)), ("outside", "a")),
                                 (("val", "<", ("r", "", 0, 0), ("", 0)), ("empty", "r"))):
            made = counting(rows=(("while", condition, ()),), notes=((FALSE,),), loans=(("look", "r", "n"),))
            self.assertEqual(("note", "f", 0, 0), first_break(made, "f", start(made, 4)))
            made = counting(rows=(("while", condition, ()),), notes=((TRUE,),), loans=(("look", "r", "n"),))
            self.assertEqual(("fault", "f", 0, fault), first_break(made, "f", start(made, 4), most=0))

    def test_faults_ahead_of_and_behind_a_false_claim(self):
        bad = ("write", "a", "n", 0, ("", 1))
        loop = ("while", FALSE, ())
        for rows, expected in (((bad, loop), ("fault", "f", 0, ("outside", "a"))), ((loop, bad), ("note", "f", 0, 0))):
            made = counting(rows=rows, notes=((FALSE,),))
            self.assertEqual(expected, first_break(made, "f", start(made, 4)))

    def test_several_at_one_time(self):
        # The inner function ends, the outer one comes to its loop again.
        inner = Function("g", arrays=(("look", "b", "m"),), rows=(), after=(FALSE,))
        rows = (("while", UP, (("move", "i", ("i", 1)), ("call", "g", ("a",), (), ()))),)
        outer = Function("f", arrays=(("full", "a", "n", "w"),), places=("i",), rows=rows, notes=((("not", at_least(1)),),))
        made = Program((inner, outer))
        self.assertEqual(("after", "g", 0), first_break(made, "f", start(made, 4)))
        made = Program((inner.with_contract((FALSE,), (FALSE,)), outer))
        self.assertEqual(("before", "g", 0), first_break(made, "f", start(made, 4)))
        made = Program((inner.with_contract((), ()), outer))
        self.assertEqual(("note", "f", 0, 0), first_break(made, "f", start(made, 4)))

    def test_beside_a_plain_reading(self):
        kinds = {}
        for seed in range(250):
            maker = Maker(seed)
            made = with_claims(maker, maker.program(maker.random.choice((1, 2, 3)), maker.random.choice((4, 8, 16))))
            for called in made.names:
                situation = maker.situation(made[called].start_frame)
                for most in (0, 3, 40):
                    expected = plain_first_break(made, called, situation, most)
                    self.assertEqual(expected, first_break(made, called, situation, most=most))
                    kinds[None if expected is None else expected[0]] = True
        self.assertEqual({"before", "after", "note", "fault", None}, set(kinds))


def with_claims(maker, made):
    """A program with random claims, most of which are true often."""
    functions = []
    for function in made.functions:
        def some(frame):
            claims = samples.Maker(frame, maker.random)
            return tuple(("or", (claims.claim(2), claims.claim(2), claims.claim(2)))
                         for _ in range(maker.random.choice((0, 0, 1, 2))))
        function = function.with_contract(some(function.start_frame), some(function.end_frame))
        for loop in range(len(function.notes)):
            function = function.with_notes(loop, some(function.frame))
        functions.append(function)
    return Program(tuple(functions))


def plain_first_break(program, called, situation, most):
    """The first break by the words of the document."""
    steps = -1
    for state in PlainRun(program, called, situation, False, False, marks=True).states():
        if state[0] in ("before", "after"):
            function = program[state[1]]
            frame = function.start_frame if state[0] == "before" else function.end_frame
            place = plain_false(frame, *state[2:], function.before if state[0] == "before" else function.after)
            if place is not None:
                return (state[0], state[1], place)
            continue
        steps += 1
        if state[0] is None:
            return None
        function = program[state[0]]
        row = function.row(state[1])
        if row[0] == "while":
            loop = [at for at, other in enumerate(function) if other[0] == "while"].index(state[1])
            named = [word for claim in function.notes[loop] for word in words_in(claim)]
            if state[2] is None or state[2][0] == "outside" or state[2][1] not in named:
                place = plain_false(function.frame, *state[3:], function.notes[loop])
                if place is not None:
                    return ("note", state[0], loop, place)
        if state[2] is not None:
            return ("fault", state[0], state[1], state[2])
        if steps == most:
            return None
    return None


def plain_false(frame, rows, positions, amounts, claims):
    """The index of the first of the claims that is false, or None."""
    there = Situation(frame, {array: rows[array] for array, length in frame.arrays},
                      {word: positions[word] for word in frame.positions}, {word: amounts[word] for word in frame.amounts})
    for place, claim in enumerate(claims):
        if not plain_truth(there, claim):
            return place
    return None


class PartingTest(unittest.TestCase):
    """Where careless sharing and copying part."""

    def test_of_the_document(self):
        self.assertEqual(3, parting(SHARED, "twice", ZEROS))
        self.assertEqual(3, parting(SHARED, "twice", ZEROS, most=3))
        self.assertIsNone(parting(SHARED, "twice", ZEROS, most=2))
        self.assertIsNone(parting(SHARED, "twice", ZEROS, most=0))

    def test_never(self):
        self.assertIsNone(parting(BOTH, "fill", BEGIN, most=10000))
        made = counting(rows=(("while", TRUE, ()),), notes=((),))
        self.assertIsNone(parting(made, "f", start(made), most=500))
        made = counting(rows=(("write", "a", "n", 0, ("", 1)),))
        self.assertIsNone(parting(made, "f", start(made, 1)))

    def test_a_write_that_changes_nothing_parts_nothing(self):
        same = Function("g", arrays=(("full", "b", "m", "v"), ("look", "c", "m")),
                        rows=(("write", "b", "", 0, ("c", "", 0, 0)), ("write", "b", "", 0, ("c", "", 0, 1)),
                              ("write", "b", "", 0, ("b", "", 0, 0))))
        outer = Function("f", arrays=(("full", "a", "n", "w"),), rows=(("call", "g", ("a", "a"), (), ()),))
        made = Program((same, outer))
        # Behind the first write both are alike; behind the second one c has changed in the sharing run alone.
        self.assertEqual(3, parting(made, "f", start(made, 4)))
        self.assertIsNone(parting(made, "f", start(made, 4), most=2))

    def test_they_part_by_a_fault_or_a_way(self):
        inner = Function("g", arrays=(("full", "b", "m", "v"), ("look", "c", "m")), numbers=("y",), rows=(
            ("write", "b", "", 0, ("", 1)), ("if", ("val", "==", ("c", "", 0, 0), ("", 1)), (("keep", "y", ("", 1)),), ())))
        outer = Function("f", arrays=(("full", "a", "n", "w"),), rows=(("call", "g", ("a", "a"), (), ()),))
        made = Program((inner, outer))
        self.assertEqual(2, parting(made, "f", start(made, 0)))
        self.assertIsNone(parting(made, "f", start(made, 1)))

    def test_beside_both_runs(self):
        parted = 0
        for seed in range(250):
            maker = Maker(seed)
            made = maker.program(2, maker.random.choice((4, 8, 16)))
            for called in made.names:
                situation = maker.situation(made[called].start_frame)
                states = [list(first_of(PlainRun(made, called, situation, copying, True).states(), 31))
                          for copying in (False, True)]
                unlike = [at for at, (one, other) in enumerate(zip(*states)) if one != other]
                expected = unlike[0] if unlike else None
                parted += expected is not None
                self.assertEqual(expected, parting(made, called, situation, most=30))
                if unsound(made) == ():
                    self.assertIsNone(expected)
        self.assertGreater(parted, 2)


def first_of(states, many):
    """So many of the states."""
    for _, state in zip(range(many), states):
        yield state


class ChangeTest(unittest.TestCase):
    """Nothing that is passed is changed, and equal calls tell the same."""

    def test_equal_calls(self):
        rand = random.Random(0)
        for _ in range(5):
            row = tuple(rand.randint(-3, 3) for _ in range(3))
            begin = Situation(FILL.start_frame, {"a": row}, {}, {"x": 1})
            for call in (outcome, first_break, parting):
                self.assertEqual(call(BOTH, "fill", begin), call(BOTH, "fill", begin))
            self.assertEqual({"a": row}, begin.rows)
        self.assertFalse(SHOWN == outcome(BOTH, "fill", BEGIN)[1])


if __name__ == "__main__":
    unittest.main()
