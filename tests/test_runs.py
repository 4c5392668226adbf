"""Runs, step by step."""

import itertools
import unittest

from lentcells.code.functions import Function
from lentcells.code.programs import Program
from lentcells.errors import (
    InvalidNumber, InvalidOperation, InvalidProgram, InvalidSituation, NothingToUndo, UnknownName)
from lentcells.loans.tables import unsound
from lentcells.runs.runs import Run
from lentcells.world.situations import Situation
from making import BOTH, FILL, OUTER, SHARED, TRUE, TWICE, Maker, one_function
from plain_runs import PlainRun
from samples import JUNK, SHOWN, deep_junk

ZERO = ("", 0)
# One full and one look parameter of a length, and a full one of another one.
HEADING = {
    "arrays": (("full", "a", "n", "wa"), ("look", "b", "n"), ("full", "c", "m", "wc")), "positions": ("i",), "values": ("x",),
    "loans": (("full", "r", "n"), ("look", "s", "n")), "places": ("j",), "numbers": ("y",),
}
START = Function("f", **HEADING).start_frame
ZEROS = Situation(OUTER.start_frame, {"c": (0, 0)}, {}, {})
BEGIN = Situation(TWICE.start_frame, {"b": (1, 2, 3), "c": (4, 5, 6)}, {}, {})


def start(a=(1, 2), b=(3, 4), c=(5,), i=1, x=7):
    """A situation of the parameters."""
    return Situation(START, {"a": a, "b": b, "c": c}, {"i": i}, {"x": x})


def run_of(*rows, notes=(), situation=None, others=(), **keywords):
    """A run of a function f with these rows."""
    made = Program((Function("f", **HEADING, rows=rows, notes=notes), *others))
    return Run(made, "f", start() if situation is None else situation, **keywords)


def now(run):
    """All that a run tells of where it is."""
    situation = run.situation
    return (run.inner, run.next_row, run.fault, situation.rows, situation.positions, situation.amounts, run.depth, run.steps)


class RowsTest(unittest.TestCase):
    """What each kind of row does."""

    def after(self, row, **more):
        run = run_of(row, ("move", "j", ("j", 0)), **more)
        self.assertEqual(("f", 0), run.advance())
        return run.situation

    def test_the_beginning(self):
        run = run_of(("move", "j", ZERO))
        self.assertEqual(("f", 0, None, {"a": (1, 2), "b": (3, 4), "c": (5,), "r": (0, 0), "s": (0, 0), "wa": (1, 2), "wc": (5,)},
                          {"i": 1, "j": 0}, {"x": 7, "y": 0}, 1, 0), now(run))
        self.assertEqual(run.program["f"].frame, run.situation.frame)
        self.assertEqual((), run.trail)

    def test_moves_and_keeps(self):
        for term, expected in ((("i", 3), 4), (("n", -1), 1), (("", 9), 9), (("m", 0), 1), (("j", -2), -2)):
            self.assertEqual(expected, self.after(("move", "j", term)).positions["j"])
        for term, expected in ((("x", 3), 10), (("y", -1), -1), (("", 9), 9), (("a", "i", 0, 5), 7), (("b", "n", -2, 0), 3)):
            self.assertEqual(expected, self.after(("keep", "y", term)).amounts["y"])

    def test_writes(self):
        for row, rows in ((("write", "a", "i", 0, ("x", 1)), {"a": (1, 8)}), (("write", "a", "", 0, ("b", "i", 0, 1)), {"a": (5, 2)}),
                          (("write", "a", "i", -1, ("a", "", 0, 1)), {"a": (2, 2)}), (("write", "c", "m", -1, ("", -3)), {"c": (-3,)})):
            situation = self.after(row)
            self.assertEqual({**start().rows, **rows}, {array: situation.rows[array] for array in "abc"})
            self.assertEqual((1, 2), situation.rows["wa"])

    def test_the_value_is_read_ahead_of_the_write(self):
        run = run_of(("write", "a", "i", 0, ("a", "i", 0, 1)), ("write", "a", "i", 0, ("a", "i", 0, 1)))
        self.assertEqual(2, run.advance_on())
        self.assertEqual((1, 4), run.situation.rows["a"])

    def test_lends(self):
        run = run_of(("lend", "r", "a"), ("write", "r", "", 0, ("", 9)), ("lend", "s", "b"), ("keep", "y", ("s", "i", 0, 0)), ("lend", "s", "r"),
                     ("keep", "y", ("s", "", 0, 0)), ("move", "j", ZERO))
        self.assertEqual([None, None], [run.place_of("r"), run.place_of("s")])
        self.assertEqual(4, run.advance_on(most=4))
        self.assertEqual((0, 1, {"a": (9, 2), "b": (3, 4), "c": (5,), "r": (9, 2), "s": (3, 4), "wa": (1, 2), "wc": (5,)}, 4),
                         (run.place_of("r"), run.place_of("s"), run.situation.rows, run.situation.amounts["y"]))
        self.assertEqual(2, run.advance_on(most=2))
        self.assertEqual((0, 9), (run.place_of("s"), run.situation.amounts["y"]))

    def test_conditions(self):
        rows = (("if", ("pos", "<", ("i", 0), ("n", 0)), (("keep", "y", ("", 1)),), (("keep", "y", ("", 2)),)), ("move", "j", ZERO))
        for i, trail, y in ((1, (0, 1, 3), 1), (2, (0, 2, 3), 2)):
            run = run_of(*rows, situation=start(i=i))
            self.assertEqual(3, run.advance_on())
            self.assertEqual(tuple(("f", row) for row in trail), run.trail)
            run.undo()
            self.assertEqual(y, run.situation.amounts["y"])
        empty = run_of(("if", TRUE, (), ()), ("move", "j", ("", 4)))
        self.assertEqual([("f", 0), ("f", 1)], [empty.advance(), empty.advance()])

    def test_parts_that_are_not_asked(self):
        far = ("val", "==", ("a", "i", 5, 0), ZERO)
        near = ("val", "==", ("a", "i", 0, 0), ("", 2))
        false = ("not", near)
        for condition, expected in (
                (("and", (false, far)), False), (("or", (near, far)), True), (("and", (near, ("or", (near, far)))), True),
                (("or", (("and", (false, far)), ("and", ()))), True), (("not", ("and", (false, far))), True),
                (("not", ("or", (near, far))), False), (("and", (near, ("not", ("or", (near, far))), far)), False), (("or", ()), False)):
            run = run_of(("if", condition, (("move", "j", ("", 1)),), (("move", "j", ("", 2)),)))
            self.assertEqual(2, run.advance_on())
            run.undo()
            self.assertEqual(1 if expected else 2, run.next_row)
        for condition in (("and", (near, far)), ("or", (false, far)), far, ("not", far), ("and", (far, false)), ("or", (far, near)),
                          ("or", (("and", (near, far)), near))):
            run = run_of(("if", condition, (), ()))
            self.assertEqual(("outside", "a"), run.fault)

    def test_loops(self):
        for i, comings in ((2, 0), (1, 1), (-2, 4)):
            run = run_of(("move", "j", ("i", 0)), ("while", ("pos", "<", ("j", 0), ("n", 0)), (("keep", "y", ("y", 2)), ("move", "j", ("j", 1)))),
                         ("move", "j", ("j", 5)), notes=((),), situation=start(i=i))
            self.assertEqual(3 + 3 * comings, run.advance_on())
            self.assertEqual(("f", 0), run.trail[0])
            self.assertEqual([("f", 1), ("f", 2), ("f", 3)] * comings + [("f", 1), ("f", 4)], list(run.trail[1:]))
            run.undo()
            self.assertEqual((2 * comings, max(i, 2)), (run.situation.amounts["y"], run.situation.positions["j"]))
        empty = run_of(("while", TRUE, ()), notes=((),))
        self.assertEqual((7, "run in f at 0: 7 steps"), (empty.advance_on(most=7), str(empty)))

    def test_a_function_without_rows(self):
        run = Run(one_function(), "f", Situation(Function("f").start_frame, {}, {}, {}))
        self.assertTrue(run.is_done())
        self.assertEqual((None, None, None, {}, {}, {}, 0, 0), now(run))
        self.assertEqual("run: done, 0 steps", str(run))
        called = run_of(("call", "g", (), (), ()), others=(Function("g"),))
        self.assertEqual((("f", 0), True, (("f", 0),)), (called.advance(), called.is_done(), called.trail))


# A function with two full parameters, a look one, a position and a value.
TAKES = Function("g", arrays=(("full", "a", "k", "wa"), ("look", "b", "k"), ("full", "d", "l", "wd")), positions=("i",), values=("v",),
                 loans=(("full", "r", "k"),), places=("o",), numbers=("u",),
                 rows=(("write", "a", "i", 0, ("b", "i", 0, 1)), ("move", "o", ("i", 5)), ("keep", "u", ("v", 1)),
                       ("write", "d", "", 0, ("u", 0))))


class CallsTest(unittest.TestCase):
    """Calls, by handing over and by copying."""

    def test_what_a_called_function_begins_with(self):
        for copying in (False, True):
            run = run_of(("keep", "y", ("", 2)), ("call", "g", ("a", "b", "c"), (("i", -1),), (("a", "i", 0, 3),)), ("move", "j", ("", 6)),
                         others=(TAKES,), copying=copying)
            self.assertEqual([("f", 0), ("f", 1)], [run.advance(), run.advance()])
            self.assertEqual(("g", 0, None, {"a": (1, 2), "b": (3, 4), "d": (5,), "r": (0, 0), "wa": (1, 2), "wd": (5,)},
                              {"i": 0, "o": 0}, {"v": 5, "u": 0}, 2, 2), now(run))
            self.assertEqual(3, run.advance_on(most=3))
            self.assertEqual(({"a": (4, 2), "b": (3, 4), "d": (5,), "r": (0, 0), "wa": (1, 2), "wd": (5,)}, {"i": 0, "o": 5},
                              {"v": 5, "u": 6}), now(run)[3:6])
            self.assertEqual(("g", 3), run.advance())
            self.assertEqual(("f", 2, None, {"a": (4, 2), "b": (3, 4), "c": (6,), "r": (0, 0), "s": (0, 0), "wa": (1, 2), "wc": (5,)},
                              {"i": 1, "j": 0}, {"x": 7, "y": 2}, 1, 6), now(run))
            self.assertEqual(("f", 2), run.advance())
            self.assertEqual((None, None, None, {"a": (4, 2), "b": (3, 4), "c": (6,), "wa": (1, 2), "wc": (5,)}, {"i": 1}, {"x": 7}, 0, 7),
                             now(run))
            self.assertEqual(START.with_names(arrays=(("wa", "n"), ("wc", "m"))), run.situation.frame)
            self.assertEqual((("f", 0), ("f", 1), ("g", 0), ("g", 1), ("g", 2), ("g", 3), ("f", 2)), run.trail)

    def test_numbers_of_places(self):
        inner = Function("h", arrays=(("look", "b", "k"), ("full", "a", "k", "wa")), rows=(("write", "a", "", 0, ("b", "", 0, 1)),))
        middle = Function("g", arrays=(("full", "a", "k", "wa"), ("look", "b", "k")), loans=(("full", "r", "k"),),
                          rows=(("lend", "r", "a"), ("call", "h", ("b", "r"), (), ()), ("move", "o", ZERO)), places=("o",))
        rows = (("call", "g", ("a", "b"), (), ()), ("call", "h", ("b", "a"), (), ()))
        expected = {False: ([0, 1, 2], [0, 1, None], [1, 0], [0, 1, 0], [1, 0]), True: ([0, 1, 2], [3, 4, None], [5, 6], [3, 4, 3], [7, 8])}
        for copying in (False, True):
            run = run_of(*rows, others=(middle, inner), copying=copying)
            found = [[run.place_of(word) for word in "abc"]]
            run.advance()
            found.append([run.place_of(word) for word in "abr"])
            run.advance_on(most=2)
            found.append([run.place_of(word) for word in "ba"])
            self.assertEqual(3, run.depth)
            run.advance()
            found.append([run.place_of(word) for word in "abr"])
            run.advance_on(most=2)
            self.assertEqual(("h", 0), (run.inner, run.next_row))
            found.append([run.place_of(word) for word in "ba"])
            self.assertEqual(expected[copying], tuple(found))
            # Places of calls that are taken back are free again.
            run.undo()
            run.advance()
            self.assertEqual(found[-1], [run.place_of(word) for word in "ba"])
            self.assertEqual(1, run.advance_on())

    def test_one_array_for_two_looks(self):
        looks = Function("g", arrays=(("look", "a", "k"), ("look", "b", "k")), numbers=("u",), rows=(("keep", "u", ("a", "", 0, 0)),) * 2)
        for copying, places in ((False, [0, 0]), (True, [3, 4])):
            run = run_of(("call", "g", ("a", "a"), (), ()), others=(looks,), copying=copying)
            run.advance()
            self.assertEqual(places, [run.place_of("a"), run.place_of("b")])
            self.assertEqual(2, run.advance_on())

    def test_put_back_one_after_the_other(self):
        both = Function("g", arrays=(("full", "p", "k", "wp"), ("full", "q", "k", "wq")),
                        rows=(("write", "p", "", 0, ("", 8)), ("write", "q", "", 1, ("", 9)), ("if", ("val", "==", ("p", "", 1, 0), ("", 9)), (("write", "q", "", 0, ("", 7)),), ())))
        for copying, a in ((False, (7, 9)), (True, (1, 9))):
            run = run_of(("call", "g", ("a", "a"), (), ()), others=(both,), copying=copying, careless=True)
            self.assertEqual(4 if copying else 5, run.advance_on())
            self.assertEqual(a, run.situation.rows["a"])
        # What is put into look parameters is nothing.
        mixed = Function("g", arrays=(("full", "p", "k", "wp"), ("look", "q", "k")), rows=(("write", "p", "", 0, ("q", "", 0, 5)),) * 2)
        for copying, a in ((False, (11, 2)), (True, (6, 2))):
            run = run_of(("call", "g", ("a", "a"), (), ()), others=(mixed,), copying=copying, careless=True)
            self.assertEqual(3, run.advance_on())
            self.assertEqual(a, run.situation.rows["a"])

    def test_a_function_that_calls_itself(self):
        down = ("if", ("pos", "<", ZERO, ("p", 0)), (("call", "g", ("a",), (("p", -1),), ()), ("write", "a", "p", 0, ("a", "p", -1, 1))), ())
        itself = Function("g", arrays=(("full", "a", "n", "w"),), positions=("p",), rows=(down,))
        made = Program((itself,))
        for copying in (False, True):
            run = Run(made, "g", Situation(itself.start_frame, {"a": (4, 0, 0, 0)}, {"p": 3}, {}), copying=copying)
            depths = []
            while not run.is_done():
                depths.append(run.depth)
                run.advance()
            self.assertEqual([1, 1, 2, 2, 3, 3, 4, 3, 2, 1], depths)
            self.assertEqual(((4, 5, 6, 7), (4, 0, 0, 0)), (run.situation.rows["a"], run.situation.rows["w"]))
        forever = Program((Function("g", rows=(("call", "g", (), (), ()),)),))
        run = Run(forever, "g", Situation(forever["g"].start_frame, {}, {}, {}))
        self.assertEqual((10000, 10001), (run.advance_on(most=10000), run.depth))
        self.assertEqual(10000, len(run.undo(many=10000)))
        self.assertEqual(1, run.depth)

    def test_of_the_document(self):
        run = Run(SHARED, "twice", ZEROS, careless=True)
        self.assertEqual([("twice", 0), ("twice", 1), "two", 0, ("two", 0), 1, "run in two at 1: 3 steps", 1, 2],
                         [run.advance(), run.advance(), run.inner, run.place_of("b"), run.advance(), run.situation.cell("b", 0), str(run),
                          run.advance_on(), run.situation.cell("c", 1)])
        self.assertEqual("run: done, 4 steps", str(run))
        self.assertEqual({"b": (4, 7, 7), "c": (4, 5, 6), "was": (1, 2, 3)}, finished(Run(BOTH, "twice", BEGIN)).rows)


def finished(run):
    """The situation at the end of a run."""
    run.advance_on(most=10000)
    return run.situation


class FaultsTest(unittest.TestCase):
    """Where runs stop."""

    def check(self, fault, *rows, steps=0, careless_fault=None, **more):
        for copying in (False, True):
            run = run_of(*rows, copying=copying, **more)
            self.assertEqual(steps, run.advance_on())
            ahead = now(run)
            self.assertEqual((fault, f"run in {run.inner} at {run.next_row}: fault, {steps} steps"), (run.fault, str(run)))
            with self.assertRaises(InvalidOperation):
                run.advance()
            self.assertEqual((0, ahead), (run.advance_on(), now(run)))
            careless = run_of(*rows, copying=copying, careless=True, **more)
            careless.advance_on()
            self.assertEqual(careless_fault, careless.fault)

    def test_empty(self):
        empty = ("empty", "r")
        self.check(empty, ("write", "r", "", 0, ("a", "", 9, 0)), careless_fault=empty)
        self.check(empty, ("lend", "s", "r"), careless_fault=empty)
        self.check(empty, ("move", "j", ZERO), ("lend", "s", "r"), steps=1, careless_fault=empty)
        # All cells of a condition are looked at, also those that are not asked.
        unasked = ("and", (("or", ()), ("val", "<", ("r", "", 0, 0), ZERO)))
        self.check(empty, ("if", unasked, (), ()), careless_fault=empty)
        note = ((("val", "<", ("r", "", 0, 0), ZERO),),)
        self.check(empty, ("while", ("or", ()), ()), notes=note, careless_fault=empty)

    def test_ended(self):
        rows = (("lend", "r", "a"), ("write", "a", "", 0, ZERO), ("write", "r", "i", 0, ("", 9)), ("move", "j", ZERO))
        self.check(("ended", "r"), *rows, steps=2)
        run = run_of(*rows, careless=True)
        self.assertEqual(3, run.advance_on(most=3))
        self.assertEqual(((0, 9), 0), (run.situation.rows["a"], run.place_of("r")))
        # Within a row: the look at a ends r.
        self.check(("ended", "r"), ("lend", "r", "a"), ("write", "r", "", 0, ("a", "", 0, 0)), steps=1)
        note = ((("val", "<", ("r", "", 0, 0), ZERO),),)
        self.check(("ended", "r"), ("lend", "r", "a"), ("write", "a", "", 0, ZERO), ("while", ("or", ()), ()), notes=note, steps=2)

    def test_ended_at_a_later_coming(self):
        body = (("write", "r", "", 0, ZERO), ("write", "a", "", 0, ZERO), ("move", "j", ("j", 1)))
        rows = (("lend", "r", "a"), ("while", ("pos", "<", ("j", 0), ("i", 0)), body))
        self.check(("ended", "r"), *rows, notes=((),), situation=start(i=2), steps=6)
        self.assertEqual(6, run_of(*rows, notes=((),), situation=start(i=1)).advance_on())

    def test_facts_are_those_of_one_call(self):
        # What was lent in an earlier call is forgotten.
        lends = Function("g", arrays=(("full", "p", "k", "w"),), loans=(("full", "r", "k"),), positions=("z",),
                         rows=(("if", ("pos", "<", ZERO, ("z", 0)), (("lend", "r", "p"),), ()), ("write", "r", "", 0, ZERO)))
        rows = (("call", "g", ("a",), (("", 1),), ()), ("call", "g", ("a",), (("", 0),), ()))
        self.check(("empty", "r"), *rows, others=(lends,), steps=6, careless_fault=("empty", "r"))
        # And the calling function goes on with its own ones.
        rows = (("lend", "r", "a"), ("call", "g", ("a",), (("", 1),), ()), ("write", "r", "", 0, ZERO))
        self.check(("ended", "r"), *rows, others=(lends,), steps=5)

    def test_arguments(self):
        both = Function("g", arrays=(("full", "p", "k", "wp"), ("look", "q", "k")))
        self.check(("argument", 0), ("call", "g", ("a", "a"), (), ()), others=(both,))
        self.check(("argument", 0), ("lend", "r", "a"), ("call", "g", ("r", "a"), (), ()), others=(both,), steps=1)
        self.check(("ended", "r"), ("lend", "r", "a"), ("call", "g", ("a", "r"), (), ()), others=(both,), steps=1)

    def test_outside(self):
        for row, array in ((("keep", "y", ("a", "i", 1, 0)), "a"), (("keep", "y", ("b", "", -1, 0)), "b"), (("write", "a", "n", 0, ("x", 0)), "a"),
                           (("write", "a", "", 0, ("b", "n", 0, 0)), "b"), (("write", "a", "n", 0, ("c", "n", 0, 0)), "c"),
                           (("write", "a", "n", 0, ("c", "", 0, 0)), "a"),
                           (("call", "g", ("a", "b", "c"), (ZERO,), (("b", "n", 0, 0),)), "b"),
                           (("if", ("val", "<", ("a", "", 0, 0), ("c", "i", 0, 0)), (), ()), "c"),
                           (("if", ("val", "<", ("b", "n", 0, 0), ("a", "n", 0, 0)), (), ()), "b"),
                           (("while", ("or", (("val", "<", ("a", "", 0, 0), ("", -9)), ("val", "<", ("a", "n", 0, 0), ZERO))), ()), "a")):
            notes = ((),) * (row[0] == "while")
            self.check(("outside", array), row, others=(TAKES,), notes=notes, careless_fault=("outside", array))
        self.check(("outside", "r"), ("lend", "r", "a"), ("write", "r", "n", 0, ZERO), steps=1, careless_fault=("outside", "r"))
        self.check(("outside", "a"), ("write", "a", "", 0, ZERO), situation=start(a=(), b=()), careless_fault=("outside", "a"))
        # In a called function, by its names.
        self.check(("outside", "a"), ("call", "g", ("a", "b", "c"), (("n", 0),), (ZERO,)), others=(Function("g", arrays=TAKES.arrays, positions=("i",), values=("v",), rows=(("write", "a", "i", 0, ("v", 0)),)),),
                   steps=1, careless_fault=("outside", "a"))

    def test_a_fault_of_loans_comes_ahead_of_one_outside(self):
        self.check(("empty", "r"), ("write", "a", "n", 0, ("r", "n", 0, 0)), careless_fault=("empty", "r"))
        both = Function("g", arrays=(("full", "p", "k", "wp"), ("look", "q", "k")), values=("v",))
        self.check(("argument", 0), ("call", "g", ("a", "a"), (), (("b", "n", 0, 0),)), others=(both,), careless_fault=("outside", "b"))


class RunTest(unittest.TestCase):
    """Going on, going back, twins and texts."""

    def setUp(self):
        self.run_both = Run(BOTH, "twice", BEGIN)

    def test_advance_on(self):
        run = self.run_both
        self.assertEqual([0, 2, 1, 11, 0], [run.advance_on(most=0), run.advance_on(most=2), run.advance_on(most=1), run.advance_on(), run.advance_on()])
        self.assertEqual((True, 14, 14), (run.is_done(), run.steps, len(run)))
        with self.assertRaises(InvalidOperation):
            run.advance()
        self.assertEqual(0, run.advance_on(most=10000))
        for value in (-1, 10001, True, False, None, "5", (), 10 ** 70, 10 ** 99):
            with self.assertRaises(InvalidNumber) as caught:
                run.advance_on(most=value)
            self.assertEqual(value, caught.exception.number)
        endless = Run(one_function(rows=(("while", TRUE, ()),), notes=((),)), "f", Situation(Function("f").start_frame, {}, {}, {}))
        self.assertEqual([100, 10000], [endless.advance_on(), endless.advance_on(most=10000)])
        self.assertEqual(10100, len(endless))

    def test_undo(self):
        for copying in (False, True):
            run = Run(BOTH, "twice", BEGIN, copying=copying)
            states = [now(run)]
            while not run.is_done():
                run.advance()
                states.append(now(run))
            trail = run.trail
            for many in (0, 1, 2, 5, len(trail)):
                self.assertEqual(trail[::-1][:many], run.undo(many=many))
                self.assertEqual(states[len(trail) - many], now(run))
                self.assertEqual(trail[:len(trail) - many], run.trail)
                self.assertEqual(many, run.advance_on())
                self.assertEqual((states[-1], trail), (now(run), run.trail))
            self.assertEqual((trail[-1],), run.undo())
            for asked in (len(trail), 10 ** 59):
                with self.assertRaises(NothingToUndo) as caught:
                    run.undo(many=asked)
                self.assertEqual(asked, caught.exception.asked)
            for value in (-1, True, None, "1", (), 10 ** 60):
                with self.assertRaises(InvalidNumber) as caught:
                    run.undo(many=value)
                self.assertEqual(value, caught.exception.number)
            self.assertEqual(states[-2], now(run))

    def test_undo_of_rows_that_are_put_back_into_one_place(self):
        both = Function("g", arrays=(("full", "p", "k", "wp"), ("full", "q", "k", "wq")),
                        rows=(("write", "p", "", 0, ("", 8)), ("write", "q", "", 1, ("", 9))))
        run = run_of(("call", "g", ("a", "a"), (), ()), others=(both,), copying=True, careless=True)
        states = [now(run)]
        while not run.is_done():
            run.advance()
            states.append(now(run))
        for many in (1, 2, 3):
            run.undo(many=many)
            self.assertEqual(states[3 - many], now(run))
            self.assertEqual(many, run.advance_on())
            self.assertEqual(states[3], now(run))

    def test_undo_behind_a_fault(self):
        run = Run(SHARED, "twice", ZEROS)
        run.advance()
        self.assertEqual(("argument", 0), run.fault)
        self.assertEqual((("twice", 0),), run.undo())
        self.assertEqual((None, 0, None), (run.fault, run.next_row, run.place_of("r")))
        self.assertEqual((1, ("argument", 0)), (run.advance_on(), run.fault))

    def test_twins(self):
        run = self.run_both
        run.advance_on(most=3)
        twin = run.twin()
        self.assertEqual(run, twin)
        self.assertEqual(now(run), now(twin))
        twin.advance_on()
        self.assertEqual(((1, 2, 3), True, 3), (run.situation.rows["a"], twin.is_done(), len(run)))
        self.assertNotEqual(run, twin)
        run.undo(many=3)
        self.assertEqual((0, 14), (len(run), len(twin)))
        twin.undo(many=11)
        self.assertEqual(("fill", ()), (twin.inner, run.trail))
        run.advance_on(most=3)
        self.assertEqual(run, twin)
        done = run.twin()
        done.advance_on()
        again = done.twin()
        self.assertEqual((True, done.situation), (again.is_done(), again.situation))
        again.undo()
        self.assertTrue(done.is_done())
        copying = run_of(("call", "g", ("a", "b", "c"), (("i", -1),), (ZERO,)), others=(TAKES,), copying=True)
        copying.advance_on(most=2)
        other = copying.twin()
        other.advance_on()
        copying.undo()
        self.assertEqual(((1, 2), (4, 2)), (copying.situation.rows["a"], other.situation.rows["a"]))

    def test_twins_have_places_of_their_own(self):
        run = run_of(*[("write", "a", "", 0, ("a", "", 0, 1))] * 3)
        run.advance()
        twin = run.twin()
        twin.advance()
        run.advance()
        run.advance()
        twin.advance()
        self.assertEqual(((4, 2), (4, 2)), (run.situation.rows["a"], twin.situation.rows["a"]))
        twin.undo(many=3)
        run.undo()
        self.assertEqual(((3, 2), (1, 2)), (run.situation.rows["a"], twin.situation.rows["a"]))

    def test_places(self):
        run = self.run_both
        self.assertEqual([0, 1, None], [run.place_of(word) for word in "bcr"])
        for value in ("was", "m", "a", "x", "fill", "", None, 0, ("b",), ["b"], {}, BOTH):
            with self.assertRaises(UnknownName) as caught:
                run.place_of(value)
            self.assertEqual(value, caught.exception.name)
        run.advance_on(most=2)
        self.assertEqual(0, run.place_of("a"))
        for word in ("b", "old", "i"):
            with self.assertRaises(UnknownName):
                run.place_of(word)
        run.advance_on()
        for value in ("b", "q", None):
            with self.assertRaises(InvalidOperation):
                run.place_of(value)

    def test_texts(self):
        run = self.run_both
        self.assertEqual("run in twice at 0: 0 steps", str(run))
        run.advance_on(most=3)
        self.assertEqual("run in fill at 1: 3 steps", str(run))
        run.advance_on()
        self.assertEqual("run: done, 14 steps", str(run))
        fault = Run(SHARED, "twice", ZEROS)
        fault.advance()
        self.assertEqual("run in twice at 1: fault, 1 steps", str(fault))

    def test_equality(self):
        self.assertEqual(self.run_both, Run(BOTH, "twice", BEGIN))
        other = Situation(TWICE.start_frame, {"b": (1, 2, 3), "c": (4, 5, 7)}, {}, {})
        for run in (Run(BOTH, "twice", other), Run(BOTH, "twice", BEGIN, copying=True), Run(BOTH, "twice", BEGIN, careless=True),
                    Run(Program((TWICE, FILL.with_notes(0, ()))), "twice", BEGIN)):
            self.assertNotEqual(self.run_both, run)
        self.assertNotEqual(Run(BOTH, "twice", BEGIN, copying=True), Run(BOTH, "twice", BEGIN, careless=True))
        two = Program((Function("f", rows=(("call", "f", (), (), ()),)), Function("g", rows=(("call", "f", (), (), ()),))))
        empty = Situation(Function("f").start_frame, {}, {}, {})
        self.assertNotEqual(Run(two, "f", empty), Run(two, "g", empty))
        self.assertEqual(Run(two, "f", empty), Run(two, "f", empty))
        self.run_both.advance()
        self.assertNotEqual(self.run_both, Run(BOTH, "twice", BEGIN))
        for value in JUNK + (BOTH, BEGIN):
            self.assertNotEqual(self.run_both, value)
        with self.assertRaises(TypeError):
            iter(self.run_both)

    def test_what_is_told_is_no_way_in(self):
        run = self.run_both
        run.situation.rows["b"] = ()
        run.situation.positions["i"] = 4
        self.assertEqual(now(Run(BOTH, "twice", BEGIN)), now(run))

    def test_integers_of_any_length(self):
        most = 10 ** 60 - 1
        run = run_of(("write", "a", "", 0, ("x", 5)), ("keep", "y", ("a", "", 0, 10)), ("move", "j", ("i", 20)), ("call", "g", ("a",), (("j", 1),), (("y", 1),)),
                     situation=start(i=most, x=most), others=(Function("g", arrays=(("look", "p", "n"),), positions=("i",), values=("v",), places=("o",), rows=(("move", "o", ("i", 0)),)),))
        self.assertEqual(4, run.advance_on(most=4))
        self.assertEqual(({"i": most + 21, "o": 0}, {"v": most + 16}), (run.situation.positions, run.situation.amounts))
        self.assertEqual((most + 5, 2), run.situation.rows["p"])


class ArgumentsTest(unittest.TestCase):
    """Wrong arguments, and which of them decides."""

    def test_in_order(self):
        for value in JUNK + (deep_junk(), FILL):
            with self.assertRaises(InvalidProgram):
                Run(value, None, None, copying=None, careless=None)
            with self.assertRaises(UnknownName) as caught:
                Run(BOTH, value, None, copying=None, careless=None)
            self.assertEqual(value, caught.exception.name)
            with self.assertRaises(InvalidSituation):
                Run(BOTH, "twice", value, copying=None, careless=None)
        for value in (0, 1, None, "", "True", (), (True,), [False], 2):
            for keyword in ("copying", "careless"):
                with self.assertRaises(InvalidOperation):
                    Run(BOTH, "twice", BEGIN, **{keyword: value})

    def test_situations(self):
        for value in (SHOWN, start(), ZEROS):
            with self.assertRaises(InvalidSituation):
                Run(BOTH, "twice", value)
        whole = Situation(TWICE.end_frame, {"b": (), "c": (), "was": ()}, {}, {})
        with self.assertRaises(InvalidSituation):
            Run(BOTH, "twice", whole)
        self.assertEqual((), Run(BOTH, "twice", whole.for_frame(TWICE.start_frame)).trail)


class PlainTest(unittest.TestCase):
    """Random runs, step by step, beside a plain reading of the document."""

    def test_random_runs(self):
        found = {}
        for seed in range(110):
            maker = Maker(seed)
            made = maker.program(maker.random.choice((1, 2, 3)), maker.random.choice((4, 8, 16)))
            for called, copying, careless in itertools.product(made.names, (False, True), (False, True)):
                how = self.check(maker, made, called, copying, careless)
                found[how] = found.get(how, 0) + 1
        self.assertEqual(["argument", "empty", "end", "ended", "long", "outside"], sorted(found))

    def check(self, maker, made, called, copying, careless):
        situation = maker.situation(made[called].start_frame)
        run = Run(made, called, situation, copying=copying, careless=careless)
        how, seen = "", []
        for state in PlainRun(made, called, situation, copying, careless).states():
            self.assertEqual(state, now(run)[:6])
            seen.append(now(run))
            if state[0] is None or state[2] is not None or len(seen) == 50:
                how = "end" if state[0] is None else "long" if state[2] is None else state[2][0]
                break
            self.assertEqual(state[:2], run.advance())
        back = maker.random.randint(0, len(run))
        twin, trail = run.twin(), run.trail
        self.assertEqual(trail[::-1][:back], run.undo(many=back))
        self.assertEqual(seen[len(trail) - back], now(run))
        self.assertEqual(back, run.advance_on(most=back))
        self.assertEqual((run, trail, now(run)), (twin, twin.trail, now(twin)))
        return how

    def test_sound_programs_have_no_faults_of_loans(self):
        # [5.5], and look parameters stay as they were.
        steps = 0
        for seed in range(200, 420):
            maker = Maker(seed)
            made = maker.program(maker.random.choice((1, 2)), maker.random.choice((4, 8, 16)))
            if unsound(made) == ():
                for copying, called in itertools.product((False, True), made.names):
                    begin = maker.situation(made[called].start_frame)
                    run = Run(made, called, begin, copying=copying)
                    steps += run.advance_on(most=200)
                    self.assertIn(None if run.fault is None else run.fault[0], (None, "outside"))
                    if run.is_done():
                        looks = [told[1] for told in made[called].arrays if told[0] == "look"]
                        self.assertEqual([begin.rows[array] for array in looks],
                                         [run.situation.rows[array] for array in looks])
        self.assertGreater(steps, 500)

    def test_sound_programs_run_alike(self):
        # [0.24] and [5.5], for programs without faults of loans.
        alike = 0
        for seed in range(80):
            maker = Maker(seed)
            made = maker.program(2, 8)
            situation = maker.situation(made["f"].start_frame)
            runs = [Run(made, "f", situation, copying=copying, careless=careless)
                    for copying in (False, True) for careless in (False, True)]
            while not runs[0].is_done() and runs[0].fault is None and len(runs[0]) < 40:
                self.assertEqual(1, len({run.advance() for run in runs}))
                if runs[0].fault is None:
                    told = [(run.inner, run.next_row, run.fault, run.situation) for run in runs]
                    self.assertTrue(all(part == told[0] for part in told))
                    alike += 1
        self.assertGreater(alike, 200)


if __name__ == "__main__":
    unittest.main()
