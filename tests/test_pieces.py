"""Pieces of functions: what they begin with, what their rows give, and their questions."""

import unittest

from lentcells.base.frames import Frame
from lentcells.code.functions import Function
from lentcells.code.programs import Program
from lentcells.decide.follows import follows
from lentcells.errors import InvalidOperation, InvalidProgram, TooMany, UnknownName
from lentcells.loans.tables import Table, unsound
from lentcells.logic.claims import inside_claim
from lentcells.pieces.pieces import MAX_CALLS, MAX_PIECES, MAX_WRITES, Piece, pieces
from lentcells.solve.questions import Question
from lentcells.world.situations import Situation
from making import ALL, BOTH, DONE, FALSE, FILL, LENT, SHARED, SPAN, TRUE, TWICE, UP, Maker, one_function
from plain_pieces import Walker, with_contracts
from samples import JUNK, deep_junk

ZERO, ONE = ("", 0), ("", 1)
# A full and a look parameter of a length, and a full one of another length.
HEADING = {
    "arrays": (("full", "a", "n", "u"), ("look", "b", "n"), ("full", "c", "m", "v")), "positions": ("i",), "values": ("x",),
    "loans": (("full", "r", "n"), ("full", "s", "n"), ("look", "t", "n")), "places": ("j",), "numbers": ("y",),
}
PARAMETERS = (("a", "n"), ("b", "n"), ("c", "m"))
WAS = (("u", "n"), ("v", "m"))


def pos(op, one, other):
    return ("pos", op, one, other)


def val(op, one, other):
    return ("val", op, one, other)


def made_of(*rows, others=(), **passed):
    """A program with a function f that has these rows, and others."""
    return Program((Function("f", **{**HEADING, **passed}, rows=rows), *others))


def pieces_of(*rows, **passed):
    """The pieces of such a function."""
    return pieces(made_of(*rows, **passed), "f")


def told(found):
    """What tells pieces apart."""
    return [(piece.start, piece.shape, piece.answers, piece.stop) for piece in found]


def write_facts(new, old, word, shift, content, own="k"):
    """What a write gives."""
    beside = ("or", (pos("<=", (own, 0), (word, shift - 1)), pos("<=", (word, shift + 1), (own, 0))))
    return (val("==", (new, word, shift, 0), content), ("all", (own,), beside, val("==", (new, own, 0, 0), (old, own, 0, 0))))


def inside(length, word, shift):
    """That a term is inside of arrays of a length."""
    return ("and", (pos("<=", ZERO, (word, shift)), pos("<", (word, shift), (length, 0))))


class WaysTest(unittest.TestCase):
    """Which pieces there are, and their order."""

    def test_of_the_document(self):
        self.assertEqual(
            ["piece of fill from start to 0: 0 rows", "piece of fill from 0 to end: 1 rows",
             "piece of fill from 0 to 0: 3 rows"], [str(piece) for piece in pieces(BOTH, "fill")])
        found = pieces(BOTH, "twice")
        self.assertEqual(["piece of twice from start to end: 3 rows", "piece of twice from start to end: 4 rows"],
                         [str(piece) for piece in found])
        self.assertEqual({"b": "wb", "c": "c", "r": "wb"}, found[1].names)
        self.assertEqual([("inside", 3), ("inside", 3)], [kind for kind, question in found[1].questions()])

    def test_no_rows(self):
        found = pieces_of(after=(TRUE,))
        self.assertEqual([(-1, (), (), -1)], told(found))
        self.assertEqual((), found[0].trail)
        self.assertEqual("piece of f from start to end: 0 rows", str(found[0]))

    def test_ifs(self):
        row = ("if", pos("<", ("i", 0), ("j", 0)), (("move", "j", ZERO),), (("move", "j", ONE), ("keep", "y", ZERO)))
        found = pieces_of(row, ("if", FALSE, (), ()), ("move", "j", ZERO))
        self.assertEqual([(-1, (), answers, -1) for answers in
                          ((False, False), (False, True), (True, False), (True, True))], told(found))
        self.assertEqual([(0, 2, 3, 4, 5), (0, 2, 3, 4, 5), (0, 1, 4, 5), (0, 1, 4, 5)], [piece.trail for piece in found])
        for answer in found[0].answers:
            self.assertIs(False, answer)

    def test_ifs_in_ifs(self):
        inner = ("if", FALSE, (("move", "j", ZERO),), ())
        found = pieces_of(("if", TRUE, (inner,), ()), ("keep", "y", ZERO))
        self.assertEqual([((False,), (0, 3)), ((True, False), (0, 1, 3)), ((True, True), (0, 1, 2, 3))],
                         [(piece.answers, piece.trail) for piece in found])

    def test_loops_in_loops(self):
        rows = (("while", UP, (("move", "j", ZERO), ("while", FALSE, (("move", "j", ONE),)), ("keep", "y", ZERO))),)
        found = pieces_of(*rows, notes=((), ()))
        self.assertEqual([(-1, (), (), 0), (0, (), (False,), -1), (0, (), (True,), 1), (1, (), (False,), 0),
                          (1, (), (True,), 1)], told(found))
        self.assertEqual([(), (0,), (0, 1), (2, 4), (2, 3)], [piece.trail for piece in found])

    def test_loops_behind_loops(self):
        rows = (("while", UP, (("move", "j", ZERO),)), ("if", FALSE, (("while", FALSE, ()),), ()), ("keep", "y", ZERO))
        found = pieces_of(*rows, notes=((), ()))
        self.assertEqual([(-1, (), (), 0), (0, (), (False, False), -1), (0, (), (False, True), 1), (0, (), (True,), 0),
                          (1, (), (False,), -1), (1, (), (True,), 1)], told(found))
        self.assertEqual([(), (0, 2, 4), (0, 2), (0, 1), (3, 4), (3,)], [piece.trail for piece in found])

    def test_a_loop_with_an_empty_body(self):
        found = pieces_of(("while", TRUE, ()), notes=((FALSE,),))
        self.assertEqual([(-1, (), (), 0), (0, (), (False,), -1), (0, (), (True,), 0)], told(found))
        self.assertEqual(["piece of f from 0 to 0: 1 rows"], [str(found[2])])
        self.assertEqual((FALSE, TRUE), found[2].facts)

    def test_a_loop_first_of_all(self):
        found = pieces_of(("while", TRUE, (("move", "j", ZERO),)), notes=((),))
        self.assertEqual([(), (0,), (0, 1)], [piece.trail for piece in found])

    def test_shapes(self):
        # Whether s is lent from r or t from r hangs on conditions; r and s can be of one parameter if one is of the other.
        ends = (("lend", "r", "a"), ("if", FALSE, (("lend", "r", "d"),), ()), ("if", FALSE, (("lend", "s", "a"),), (("lend", "s", "d"),)))
        arrays = (("full", "d", "n", "w"), ("full", "a", "n", "u"))
        loop = ("while", val("<", ("r", "", 0, 0), ("s", "", 0, 0)), ())
        made = one_function(arrays=arrays, loans=(("look", "s", "n"), ("look", "r", "n")), rows=(*ends, loop), notes=((),))
        shapes = [(("r", one), ("s", other)) for one in "ad" for other in "ad"]
        self.assertEqual([(0, shape, answers, stop) for shape in shapes for answers, stop in (((False,), -1), ((True,), 0))],
                         [part for part in told(pieces(made, "f")) if part[0] == 0])
        single = one_function(arrays=arrays, loans=(("look", "s", "n"), ("look", "r", "n")), notes=((),),
                              rows=(*ends, ("while", val("<", ("r", "", 0, 0), ZERO), ())))
        self.assertEqual([(("r", "a"),), (("r", "a"),), (("r", "d"),), (("r", "d"),)],
                         [piece.shape for piece in pieces(single, "f") if piece.start == 0])
        none = one_function(arrays=arrays, loans=(("look", "s", "n"), ("look", "r", "n")), notes=((),), rows=(*ends, ("while", TRUE, ())))
        self.assertEqual([(), ()], [piece.shape for piece in pieces(none, "f") if piece.start == 0])

    def test_as_many_pieces_as_there_can_be(self):
        row = ("if", TRUE, (), ())
        found = pieces_of(*[row] * 6)
        self.assertEqual(64, len(found))
        self.assertEqual(sorted(piece.answers for piece in found), [piece.answers for piece in found])
        for rows, notes in (([row] * 7, ()), ([row] * 24, ()), ([row] * 6 + [("while", TRUE, ())], ((),))):
            with self.assertRaises(TooMany) as caught:
                pieces_of(*rows, notes=notes)
            self.assertEqual(64, caught.exception.bound)
        # 32 from the beginning to the loop, and 32 from there, with those of the end and of the loop itself.
        found = pieces_of(*[row] * 5, ("while", TRUE, (row, row, row)), *[row] * 4, notes=((),))
        self.assertEqual(32 + 16 + 8, len(found))
        with self.assertRaises(TooMany):
            pieces_of(*[row] * 5, ("while", TRUE, (row, row, row, row)), *[row] * 5, ("if", TRUE, (), ()), notes=((),))

    def test_constants(self):
        self.assertEqual((64, 4, 2), (MAX_PIECES, MAX_WRITES, MAX_CALLS))


class LimitsTest(unittest.TestCase):
    """What is too much on one piece."""

    WRITE = ("write", "a", "", 0, ("x", 0))
    CALL = ("call", "g", ("b",), (), ())
    G = Function("g", arrays=(("look", "p", "q"),))

    def bound(self, *rows, **passed):
        with self.assertRaises(TooMany) as caught:
            pieces_of(*rows, others=(self.G,), **passed)
        return caught.exception.bound

    def test_writes(self):
        self.assertEqual(4 + 3, len(pieces_of(*[self.WRITE] * 4)[0].frame.arrays))
        self.assertEqual(4, self.bound(*[self.WRITE] * 5))
        # Not on one piece.
        loop = ("while", TRUE, (self.WRITE,) * 4)
        self.assertEqual(3, len(pieces_of(*[self.WRITE] * 4, loop, *[self.WRITE] * 4, notes=((),))))
        either = ("if", TRUE, (self.WRITE,) * 4, (self.WRITE,) * 4)
        self.assertEqual(2, len(pieces_of(either)))
        self.assertEqual(4, self.bound(either, self.WRITE))

    def test_calls(self):
        self.assertEqual(1, len(pieces_of(self.CALL, self.CALL, others=(self.G,))))
        self.assertEqual(2, self.bound(*[self.CALL] * 3))

    def test_both(self):
        self.assertEqual(4, self.bound(*[self.CALL] * 3, *[self.WRITE] * 5))
        # The first piece that has one of them decides.
        self.assertEqual(2, self.bound(("if", TRUE, (self.WRITE,) * 5, (self.CALL,) * 3)))
        self.assertEqual(4, self.bound(("if", TRUE, (self.CALL,) * 3, (self.WRITE,) * 5)))
        self.assertEqual(64, self.bound(*[("if", TRUE, (self.WRITE,), ())] * 7, self.CALL, self.CALL, self.CALL))

    def test_arrays(self):
        arrays = tuple(("full", word, "n", f"o{word}") for word in "abcd")
        four = Function("g", arrays=tuple(("full", word, "n", f"o{word}") for word in "abcd"))
        call = ("call", "g", ("a", "b", "c", "d"), (), ())
        most = Program((Function("f", arrays=arrays, rows=(call, call)), four))
        self.assertEqual(12, len(pieces(most, "f")[0].frame.arrays))
        over = Program((Function("f", arrays=arrays, rows=(call, call, ("write", "a", "", 0, ZERO))), four))
        with self.assertRaises(InvalidOperation):
            pieces(over, "f")
        # From a loop on there are the was names, too.
        loop = Program((Function("f", arrays=arrays, rows=(("while", TRUE, (call,)),), notes=((),)), four))
        self.assertEqual([4, 8, 12], [len(piece.frame.arrays) for piece in pieces(loop, "f")])
        over = Program((Function("f", arrays=arrays, rows=(("while", TRUE, (call, ("write", "a", "", 0, ZERO))),), notes=((),)), four))
        with self.assertRaises(InvalidOperation):
            pieces(over, "f")

    def test_given_claims(self):
        def condition(many):
            return ("and", (TRUE,) * many + (val("<", ("a", "", 0, 0), ZERO),))
        found = pieces_of(("if", condition(40), (), ()))
        self.assertEqual([40], [len(question) for kind, question in found[0].questions()])
        with self.assertRaises(InvalidOperation):
            pieces_of(("if", condition(41), (), ()))
        with self.assertRaises(InvalidOperation):
            pieces_of(("if", condition(40), (), ()), before=(TRUE,))
        # Many parts without a cell behind them ask nothing.
        self.assertEqual(2, len(pieces_of(("if", ("and", (TRUE,) * 60), (), ()))))

    def test_all_at_once(self):
        bad = ("if", ("or", (TRUE,) * 41 + (val("<", ("a", "", 0, 0), ZERO),)), (), ())
        self.assertEqual(4, self.bound(bad, *[self.CALL] * 3, *[self.WRITE] * 5))
        self.assertEqual(2, self.bound(bad, *[self.CALL] * 3))
        self.assertEqual(64, self.bound(*[bad] * 7, *[self.CALL] * 3))
        # A piece ahead of one with too many calls has a question with too many given claims.
        with self.assertRaises(InvalidOperation):
            pieces_of(("if", TRUE, (self.CALL,) * 3, (bad,)), others=(self.G,))
        self.assertEqual(2, self.bound(("if", TRUE, (bad,), (self.CALL,) * 3)))

    def test_errors_in_order(self):
        for value in JUNK + (deep_junk(), FILL):
            with self.assertRaises(InvalidProgram):
                pieces(value, None)
            with self.assertRaises(UnknownName) as caught:
                pieces(SHARED, value)
            self.assertEqual(value, caught.exception.name)
        with self.assertRaises(InvalidOperation):
            pieces(SHARED, "twice")
        self.assertEqual(1, len(pieces(SHARED, "two")))
        # A function that is not sound is not looked at, however many pieces it would have.
        with self.assertRaises(InvalidOperation):
            pieces_of(("keep", "y", ("r", "", 0, 0)), *[("if", TRUE, (), ())] * 7)


class NamesTest(unittest.TestCase):
    """Frames, names of versions, and own names."""

    def test_frames(self):
        rows = (("write", "c", "", 0, ZERO), ("write", "a", "", 0, ZERO), ("while", TRUE, (("write", "c", "", 0, ZERO),)))
        found = pieces_of(*rows, notes=((),))
        positions, values = ("i", "j"), ("x", "y")
        self.assertEqual([
            Frame((*PARAMETERS, ("wa", "m"), ("wb", "n")), positions, values), Frame(PARAMETERS + WAS, positions, values),
            Frame((*PARAMETERS, *WAS, ("wa", "m")), positions, values)], [piece.frame for piece in found])
        self.assertEqual({"a": "wb", "b": "b", "c": "wa"}, found[0].names)
        self.assertEqual({"a": "a", "b": "b", "c": "wa"}, found[2].names)
        self.assertEqual(["a", "b", "c"], list(found[0].names))

    def test_names_of_the_function(self):
        # A length, a was name, a loan, a position and a value are named like versions.
        heading = {"arrays": (("full", "a", "wa", "wc"),), "positions": ("wd",), "values": ("we",), "loans": (("full", "wb", "wa"),),
                   "places": ("wg",), "numbers": ("wh",)}
        made = one_function(**heading, rows=(("write", "a", "", 0, ZERO), ("write", "a", "", 1, ZERO)))
        self.assertEqual((("a", "wa"), ("wf", "wa"), ("wi", "wa")), pieces(made, "f")[0].frame.arrays)

    def test_own_names_of_claims(self):
        def named(own):
            return ("all", (own,), pos("<=", (own, 0), ZERO), val("==", ("a", own, 0, 0), ZERO))
        two = ("all", ("wd", "we"), pos("<=", ("wd", 0), ("we", 0)), TRUE)
        made = made_of(("write", "a", "", 0, ZERO), ("while", TRUE, ()), before=(("not", named("wa")),), after=(("and", (named("wc"),)),), notes=((two,),))
        self.assertEqual(("wb", "n"), pieces(made, "f")[0].frame.arrays[-1])
        made = made_of(("write", "a", "", 0, ZERO), ("write", "a", "", 0, ZERO), ("while", TRUE, ()), before=(named("wa"),), after=(named("wc"),), notes=((two,),))
        self.assertEqual((("wb", "n"), ("wf", "n")), pieces(made, "f")[0].frame.arrays[-2:])

    def test_own_names_of_claims_of_a_called_function_bar_nothing(self):
        claim = ("all", ("wa",), pos("<=", ("wa", 0), ZERO), val("==", ("p", "wa", 0, 0), ZERO))
        g = Function("g", arrays=(("full", "p", "q", "o"),), after=(claim,))
        piece = pieces_of(("call", "g", ("a",), (), ()), others=(g,))[0]
        self.assertEqual(("wa", "n"), piece.frame.arrays[-1])
        # There its own name is not fresh, so it is another one.
        self.assertEqual((("all", ("k",), pos("<=", ("k", 0), ZERO), val("==", ("wa", "k", 0, 0), ZERO)),), piece.facts)

    def test_own_names_of_writes(self):
        heading = {"arrays": (("full", "k", "n", "kk"),), "loans": (("full", "kkk", "n"),), "rows": (("write", "k", "", 0, ZERO),)}
        piece = pieces(one_function(**heading), "f")[0]
        self.assertEqual(write_facts("wa", "k", "", 0, ZERO, own="kkkk"), piece.facts)

    def test_was_names(self):
        claim = val("==", ("a", "", 0, 0), ("u", "", 0, 0))
        rows = (("write", "a", "", 0, ZERO), ("while", TRUE, (("write", "a", "", 0, ONE),)))
        found = pieces_of(*rows, notes=((claim,),), after=(claim,))
        self.assertEqual(val("==", ("wa", "", 0, 0), ("a", "", 0, 0)), found[0].questions()[-1][1].goal)
        self.assertEqual(claim, found[1].questions()[-1][1].goal)
        self.assertEqual((claim,), found[1].claims)
        self.assertEqual(val("==", ("wa", "", 0, 0), ("u", "", 0, 0)), found[2].questions()[-1][1].goal)

    def test_was_names_without_a_write(self):
        claim = val("==", ("a", "", 0, 0), ("u", "", 0, 0))
        piece = pieces_of(after=(claim,))[0]
        self.assertEqual(val("==", ("a", "", 0, 0), ("a", "", 0, 0)), piece.questions()[0][1].goal)


class TermsTest(unittest.TestCase):
    """Terms in terms of the beginning, and what rows give."""

    def goal(self, *rows, after, **passed):
        """What the last claim of the last question is."""
        return pieces_of(*rows, after=(after,), **passed)[-1].questions()[-1][1].goal

    def condition(self, *rows, told_by):
        """The last condition of a piece behind these rows."""
        return pieces_of(*rows, ("if", told_by, (), ()))[1].facts[-1]

    def test_locals_at_the_beginning_are_zero(self):
        self.assertEqual(pos("<", ("", 3), ("i", 1)), self.condition(told_by=pos("<", ("j", 3), ("i", 1))))
        self.assertEqual(val("<", ("", -2), ("x", 0)), self.condition(told_by=val("<", ("y", -2), ("x", 0))))
        self.assertEqual(val("<", ("a", "", 2, 5), ZERO), self.condition(told_by=val("<", ("a", "j", 2, 5), ZERO)))

    def test_locals_at_a_loop_are_themselves(self):
        found = pieces_of(("move", "j", ("i", 1)), ("while", pos("<", ("j", 0), ("i", 0)), (("move", "j", ("j", 2)),)), notes=((pos("<=", ("j", 0), ("i", 9)),),))
        self.assertEqual(pos("<=", ("i", 1), ("i", 9)), found[0].questions()[0][1].goal)
        self.assertEqual((pos("<=", ("j", 0), ("i", 9)), pos("<", ("j", 0), ("i", 0))), found[2].facts)
        self.assertEqual(pos("<=", ("j", 2), ("i", 9)), found[2].questions()[-1][1].goal)

    def test_locals_that_are_given_several_times(self):
        rows = (("move", "j", ("i", 2)), ("move", "j", ("j", 3)), ("keep", "y", ("a", "j", 1, 4)), ("move", "j", ("n", 0)), ("keep", "y", ("y", 1)))
        self.assertEqual(val("==", ("a", "i", 6, 5), ("x", 0)), self.condition(*rows, told_by=val("==", ("y", 0), ("x", 0))))
        self.assertEqual(pos("==", ("n", -1), ("m", 0)), self.condition(*rows, told_by=pos("==", ("j", -1), ("m", 0))))

    def test_kept_contents_are_those_of_then(self):
        rows = (("keep", "y", ("a", "i", 0, 0)), ("write", "a", "i", 0, ("y", 1)), ("write", "a", "i", 1, ("a", "i", 0, 2)))
        facts = pieces_of(*rows)[0].facts
        self.assertEqual((*write_facts("wa", "a", "i", 0, ("a", "i", 0, 1)), *write_facts("wb", "wa", "i", 1, ("wa", "i", 0, 2))), facts)

    def test_a_term_that_is_a_number(self):
        self.assertEqual(write_facts("wa", "a", "", 7, ("", 7)), pieces_of(("move", "j", ("", 4)), ("write", "a", "j", 3, ("y", 7)))[0].facts)

    def test_writes_through_loans(self):
        rows = (("lend", "r", "a"), ("lend", "s", "r"), ("lend", "t", "s"), ("keep", "y", ("t", "", 0, 0)), ("write", "s", "", 0, ("", 5)),
                ("write", "r", "", 1, ("r", "", 0, 0)), ("write", "a", "", 2, ("y", 0)))
        piece = pieces_of(*rows)[0]
        self.assertEqual((*write_facts("wa", "a", "", 0, ("", 5)), *write_facts("wb", "wa", "", 1, ("wa", "", 0, 0)),
                          *write_facts("wc", "wb", "", 2, ("a", "", 0, 0))), piece.facts)
        self.assertEqual({"a": "wc", "b": "b", "c": "c", "r": "wc", "s": "wc", "t": "wc"}, piece.names)

    def test_writes_through_what_the_shape_tells(self):
        arrays = (("full", "a", "n", "u"), ("full", "d", "n", "w"))
        rows = (("lend", "r", "a"), ("if", pos("<", ("i", 0), ZERO), (("lend", "r", "d"),), ()),
                ("while", pos("<", ("i", 0), ("n", 0)), (("lend", "s", "r"), ("write", "s", "i", 0, ZERO), ("move", "i", ("i", 1)))))
        note = val("==", ("r", "", 0, 0), ("w", "", 0, 0))
        made = one_function(arrays=arrays, loans=(("full", "r", "n"), ("full", "s", "n")), places=("i",), rows=rows, notes=((note,),))
        found = [piece for piece in pieces(made, "f") if piece.stop == piece.start == 0]
        self.assertEqual([(("r", "a"),), (("r", "d"),)], [piece.shape for piece in found])
        for piece, array in zip(found, "ad"):
            self.assertEqual((val("==", (array, "", 0, 0), ("w", "", 0, 0)),), piece.claims)
            self.assertEqual((*piece.claims, pos("<", ("i", 0), ("n", 0)), *write_facts("wa", array, "i", 0, ZERO)), piece.facts)
            self.assertEqual({"a": "a", "d": "d", array: "wa", "r": "wa", "s": "wa"}, piece.names)
            self.assertEqual(val("==", ("wa", "", 0, 0), ("w", "", 0, 0)), piece.questions()[-1][1].goal)
        # What the shape does not tell has no name.
        self.assertNotIn("s", [piece for piece in pieces(made, "f") if piece.start == 0 and piece.stop == -1][0].names)

    def test_conditions(self):
        test = pos("<", ("i", 0), ("j", 1))
        found = pieces_of(("move", "j", ("i", 3)), ("if", test, (), ()))
        self.assertEqual([(("not", pos("<", ("i", 0), ("i", 4))),), (pos("<", ("i", 0), ("i", 4)),)], [piece.facts for piece in found])

    def test_facts_stand_behind_claims(self):
        found = pieces_of(("while", FALSE, ()), before=(TRUE,), notes=((FALSE, TRUE),))
        self.assertEqual([((TRUE,), (TRUE,)), ((FALSE, TRUE), (FALSE, TRUE, ("not", FALSE))), ((FALSE, TRUE), (FALSE, TRUE, FALSE))],
                         [(piece.claims, piece.facts) for piece in found])


class CallsTest(unittest.TestCase):
    """What calls give and ask."""

    BEFORE = ("and", (pos("<=", ("h", 1), ("l", 0)), val("<", ("p", "h", 0, 0), ("z", 2))))
    AFTER = ("all", ("e", "k"), ("and", (pos("<=", ("h", 0), ("e", 0)), pos("<=", ("k", 0), ("e", 0)))),
             ("or", (val("<=", ("p", "e", 0, 0), ("o", "h", 1, 0)), val("==", ("q", "k", 0, 0), ("z", 0)))))
    G = Function("g", arrays=(("full", "p", "l", "o"), ("look", "q", "l")), positions=("h",), values=("z",), before=(TRUE, BEFORE),
                 after=(AFTER, TRUE))

    def test_positions_values_lengths_and_arrays(self):
        rows = (("write", "a", "", 0, ZERO), ("lend", "r", "a"), ("move", "j", ("i", 2)),
                ("call", "g", ("r", "b"), (("j", 1),), (("r", "j", 0, 3),)), ("keep", "y", ("a", "", 0, 0)))
        piece = pieces_of(*rows, others=(self.G,))[0]
        before = ("and", (pos("<=", ("i", 4), ("n", 0)), val("<", ("wa", "i", 3, 0), ("wa", "i", 2, 5))))
        self.assertEqual([(("inside", 0), inside("n", "", 0)), (("inside", 3), inside("n", "i", 2)), (("before", 3, 0), TRUE),
                          (("before", 3, 1), before), (("inside", 4), inside("n", "", 0))],
                         [(kind, question.goal) for kind, question in piece.questions()])
        after = ("all", ("e", "k"), ("and", (pos("<=", ("i", 3), ("e", 0)), pos("<=", ("k", 0), ("e", 0)))),
                 ("or", (val("<=", ("wb", "e", 0, 0), ("wa", "i", 4, 0)), val("==", ("b", "k", 0, 0), ("wa", "i", 2, 3)))))
        self.assertEqual((*write_facts("wa", "a", "", 0, ZERO), after, TRUE), piece.facts)
        self.assertEqual([0, 2, 2, 2, 4], [len(question) for kind, question in piece.questions()])
        self.assertEqual({"a": "wb", "b": "b", "c": "c", "r": "wb"}, piece.names)

    def test_own_names_that_are_not_fresh(self):
        heading = {**HEADING, "positions": ("e",), "values": ("k",)}
        made = Program((Function("f", **heading, rows=(("call", "g", ("a", "a"), (("e", 0),), (("k", 0),)),)), self.G))
        self.assertEqual(("f",), unsound(made))
        made = Program((Function("f", **heading, rows=(("call", "g", ("a", "b"), (("e", 0),), (("k", 0),)),)), self.G))
        after = ("all", ("kk", "kkk"), ("and", (pos("<=", ("e", 0), ("kk", 0)), pos("<=", ("kkk", 0), ("kk", 0)))),
                 ("or", (val("<=", ("wa", "kk", 0, 0), ("a", "e", 1, 0)), val("==", ("b", "kkk", 0, 0), ("k", 0)))))
        self.assertEqual((after, TRUE), pieces(made, "f")[0].facts)

    def test_two_full_arrays_of_one_length(self):
        claim = val("==", ("p", "", 0, 0), ("w", "", 0, 0))
        g = Function("g", arrays=(("full", "p", "l", "o"), ("full", "q", "l", "w")), after=(claim,))
        arrays = (("full", "d", "n", "dd"), ("full", "a", "n", "aa"))
        made = Program((Function("f", arrays=arrays, rows=(("call", "g", ("a", "d"), (), ()), ("call", "g", ("d", "a"), (), ()))), g))
        piece = pieces(made, "f")[0]
        # The versions come in the order of the arguments: of a and d, then of d and a.
        self.assertEqual((val("==", ("wa", "", 0, 0), ("d", "", 0, 0)), val("==", ("wc", "", 0, 0), ("wa", "", 0, 0))), piece.facts)
        self.assertEqual({"a": "wd", "d": "wc"}, piece.names)

    def test_one_array_for_two_looks(self):
        g = Function("g", arrays=(("look", "p", "l"), ("look", "q", "o")), before=(pos("==", ("l", 0), ("o", 0)),),
                     after=(val("==", ("p", "", 0, 0), ("q", "", 0, 0)),))
        piece = pieces_of(("lend", "t", "b"), ("call", "g", ("b", "t"), (), ()), others=(g,))[0]
        self.assertEqual((val("==", ("b", "", 0, 0), ("b", "", 0, 0)),), piece.facts)
        self.assertEqual(pos("==", ("n", 0), ("n", 0)), piece.questions()[0][1].goal)
        self.assertEqual(PARAMETERS, piece.frame.arrays)

    def test_a_function_that_calls_itself(self):
        claim = val("==", ("a", "", 0, 0), ("u", "", 0, 1))
        made = one_function(arrays=(("full", "a", "n", "u"),), positions=("i",), before=(pos("<", ZERO, ("i", 0)),), after=(claim,),
                            rows=(("call", "f", ("a",), (("i", -1),), ()),))
        piece = pieces(made, "f")[0]
        self.assertEqual((pos("<", ZERO, ("i", 0)), val("==", ("wa", "", 0, 0), ("a", "", 0, 1))), piece.facts)
        self.assertEqual([(("before", 0, 0), pos("<", ZERO, ("i", -1))), (("after", 0), val("==", ("wa", "", 0, 0), ("a", "", 0, 1)))],
                         [(kind, question.goal) for kind, question in piece.questions()])
        self.assertFalse(piece.is_right())

    def test_calls_hang_on_contracts_alone(self):
        # [6.7]
        other = BOTH.with_function(FILL.with_rows((), ()))
        for one, two in zip(pieces(BOTH, "twice"), pieces(other, "twice")):
            self.assertNotEqual(one, two)
            self.assertEqual((one.frame, one.facts, one.questions()), (two.frame, two.facts, two.questions()))


class QuestionsTest(unittest.TestCase):
    """The questions of pieces, their kinds and their given claims."""

    def asked(self, *rows, **passed):
        """The triples (kind, given claims, goal) of the first piece, where it has several."""
        piece = pieces_of(*rows, **passed)[0]
        for kind, question in piece.questions():
            self.assertEqual(piece.frame, question.frame)
        return [(kind, question.claims, question.goal) for kind, question in piece.questions()]

    def test_rows_without_cells(self):
        rows = (("move", "j", ("i", 0)), ("keep", "y", ("x", 0)), ("lend", "r", "a"), ("if", pos("<", ("i", 0), ("j", 0)), (), ()))
        self.assertEqual([], self.asked(*rows))

    def test_keeps_and_writes(self):
        self.assertEqual([(("inside", 1), (), inside("m", "i", 5))], self.asked(("move", "j", ("i", 2)), ("keep", "y", ("c", "j", 3, 9))))
        # The cell that is read comes ahead of the written one.
        self.assertEqual([(("inside", 0), (), inside("n", "n", -1)), (("inside", 0), (), inside("m", "i", 1))],
                         self.asked(("write", "c", "i", 1, ("b", "n", -1, 4))))
        self.assertEqual([(("inside", 0), (), inside("n", "i", 1))] * 2, self.asked(("write", "a", "i", 1, ("a", "i", 1, 4))))

    def test_the_array_is_as_it_was(self):
        rows = (("write", "a", "", 0, ZERO), ("write", "a", "", 1, ("a", "", 0, 0)))
        facts = write_facts("wa", "a", "", 0, ZERO)
        self.assertEqual([(("inside", 0), (), inside("n", "", 0)), (("inside", 1), facts, inside("n", "", 0)), (("inside", 1), facts, inside("n", "", 1))],
                         self.asked(*rows))

    def test_values_of_calls(self):
        g = Function("g", values=("p", "q", "o"), before=(val("<=", ("p", 0), ("q", 0)),))
        self.assertEqual(
            [(("inside", 0), (), inside("n", "", 3)), (("inside", 0), (), inside("m", "", 2)),
             (("before", 0, 0), (), val("<=", ("b", "", 3, 0), ("x", 0)))],
            self.asked(("call", "g", (), (), (("b", "", 3, 0), ("x", 0), ("c", "", 2, 0))), others=(g,)))

    def test_conditions_in_one_another(self):
        def cell(number):
            return val("<", ("b", "", number, 0), ("x", 0))
        condition = ("and", (cell(0), ("or", (cell(1), ("not", ("and", (cell(2), cell(3)))), cell(4))), ("not", cell(5))))
        before = (val("<", ("x", 0), ZERO),)
        middle = condition[1][1]
        contexts = [(), (cell(0),), (cell(0), ("not", cell(1))), (cell(0), ("not", cell(1)), cell(2)),
                    (cell(0), ("not", cell(1)), ("not", middle[1][1])), (cell(0), middle)]
        self.assertEqual([(("inside", 0), (*before, *context), inside("n", "", number)) for number, context in enumerate(contexts)],
                         self.asked(("if", condition, (), ()), before=before))
        # A not around it all changes nothing but the fact.
        self.assertEqual([(("inside", 0), (*before, *context), inside("n", "", number)) for number, context in enumerate(contexts)],
                         self.asked(("if", ("not", ("not", condition)), (), ()), before=before))

    def test_parts_without_cells_are_given_too(self):
        condition = ("or", (pos("<=", ("n", 0), ("j", 0)), val("<", ("a", "j", 0, 0), ("x", 0))))
        self.assertEqual([(("inside", 1), (("not", pos("<=", ("n", 0), ("i", 1))),), inside("n", "i", 1))],
                         self.asked(("move", "j", ("i", 1)), ("if", condition, (), ())))

    def test_a_cell_that_stands_twice(self):
        twice = val("<", ("a", "", 0, 0), ("a", "", 0, 1))
        self.assertEqual([(("inside", 0), (), inside("n", "", 0))] * 2, self.asked(("if", twice, (), ())))
        self.assertEqual([(("inside", 0), (), inside("n", "", 0)), (("inside", 0), (), inside("n", "", 0)), (("inside", 0), (twice,), inside("n", "", 0)),
                          (("inside", 0), (twice,), inside("n", "", 0))], self.asked(("if", ("and", (twice, twice)), (), ())))

    def test_loops(self):
        condition = val("<", ("a", "j", 0, 0), ("x", 0))
        found = pieces_of(("while", condition, (("move", "j", ("j", 1)),)), notes=((pos("<=", ZERO, ("j", 0)), TRUE),), after=(FALSE,))
        self.assertEqual([
            [(("note", 0), (), pos("<=", ZERO, ZERO)), (("note", 1), (), TRUE)],
            [(("inside", 0), found[1].claims, inside("n", "j", 0)), (("after", 0), (*found[1].claims, ("not", condition)), FALSE)],
            [(("inside", 0), found[1].claims, inside("n", "j", 0)), (("note", 0), (*found[1].claims, condition), pos("<=", ZERO, ("j", 1))),
             (("note", 1), (*found[1].claims, condition), TRUE)],
        ], [[(kind, question.claims, question.goal) for kind, question in piece.questions()] for piece in found])

    def test_wanted_claims_of_inside(self):
        piece = pieces(BOTH, "twice")[1]
        self.assertEqual(inside_claim(piece.frame, "c", ZERO), piece.questions()[0][1].goal)
        self.assertEqual(inside_claim(piece.frame, "wa", ZERO), piece.questions()[1][1].goal)

    def test_fill(self):
        found = pieces(BOTH, "fill")
        self.assertEqual((DONE, *SPAN, UP, *write_facts("wa", "a", "i", 0, ("x", 0))), found[2].facts)
        self.assertEqual([("after", 0)], [kind for kind, question in found[1].questions()])
        self.assertEqual((DONE, *SPAN, ("not", UP)), found[1].questions()[0][1].claims)
        self.assertEqual(ALL, found[1].questions()[0][1].goal)


class PieceTest(unittest.TestCase):
    """Pieces as objects."""

    def test_is_right(self):
        for called in BOTH.names:
            for piece in pieces(BOTH, called):
                self.assertIs(True, piece.is_right())
        weak = BOTH.with_function(FILL.with_notes(0, SPAN))
        self.assertEqual([True, False, True], [piece.is_right() for piece in pieces(weak, "fill")])
        for piece in pieces(weak, "fill"):
            self.assertIs(piece.is_right(), all(follows(question) for kind, question in piece.questions()))

    def test_too_many(self):
        # The first question does not follow, but another one of the piece is too great.
        great = pos("<=", ("i", 5000), ("n", 0))
        for after, bound in (((FALSE, great), 1000), ((wide(),), 16), ((great, wide()), 1000), ((wide(), great), 16)):
            piece = pieces_of(after=after)[0]
            with self.assertRaises(TooMany) as caught:
                piece.is_right()
            self.assertEqual(bound, caught.exception.bound)
            self.assertEqual(len(after), len(piece.questions()))

    def test_equality(self):
        found = pieces(BOTH, "fill")
        self.assertEqual(found, pieces(BOTH, "fill"))
        for at, one in enumerate(found):
            for other_at, other in enumerate(found):
                self.assertEqual(at == other_at, one == other)
                self.assertEqual(at != other_at, one != other)
        other = BOTH.with_function(TWICE.with_contract((TRUE,), ()))
        self.assertNotEqual(found[0], pieces(other, "fill")[0])
        for value in JUNK + (deep_junk(), BOTH):
            self.assertNotEqual(found[0], value)
            self.assertFalse(found[0] == value)
        with self.assertRaises(TypeError):
            iter(found[0])

    def test_properties(self):
        piece = pieces(BOTH, "twice")[1]
        self.assertIsInstance(piece, Piece)
        self.assertEqual((BOTH, "twice", -1, -1, (), (True,), (0, 1, 2, 3), ()),
                         (piece.program, piece.called, piece.start, piece.stop, piece.shape, piece.answers, piece.trail, piece.claims))
        self.assertEqual(4, len(piece.facts))

    def test_what_is_told_is_no_way_in(self):
        piece = pieces(BOTH, "twice")[1]
        piece.names["b"] = "c"
        piece.names.pop("r")
        self.assertEqual({"b": "wb", "c": "c", "r": "wb"}, piece.names)
        for kind, question in piece.questions():
            self.assertIsInstance(question, Question)

    def test_other_names(self):
        # [6.7]
        other = FILL.relabeled({"a": "b", "n": "m", "i": "l", "x": "z", "old": "o"})
        renamed = Program((other,)).renamed({"fill": "g"})
        for one, two in zip(pieces(Program((FILL,)), "fill"), pieces(renamed, "g")):
            self.assertEqual((one.start, one.stop, one.answers, one.trail), (two.start, two.stop, two.answers, two.trail))
            self.assertEqual(one.frame.renamed({"a": "b", "n": "m", "i": "l", "x": "z", **({"old": "o"} if "old" in one.frame else {})}), two.frame)
            self.assertEqual([kind for kind, question in one.questions()], [kind for kind, question in two.questions()])


def wide():
    """A claim with many members as a wanted one."""
    return ("or", tuple(val("<=", ("a", "i", number, 0), ("x", 0)) for number in range(1, 16)))


class RunsTest(unittest.TestCase):
    """Random runs, piece by piece: what a piece tells is what is so on the run."""

    def test_random_runs(self):
        seen = {"shape": 0, "loop": 0, "asked": 0, "versions": 0, "wrong": 0}
        for seed in range(700):
            maker = Maker(seed)
            made = with_contracts(maker, maker.program(maker.random.choice((1, 2, 2)), maker.random.choice((4, 6, 8, 12))))
            for called in [called for called in made.names if Table(made, called).is_sound]:
                try:
                    found = pieces(made, called)
                except TooMany:
                    continue
                for _ in range(3):
                    for leg in Walker(made, called, maker.situation(made[called].start_frame)).legs():
                        piece = self.match(found, leg)
                        self.compare(made[called], piece, leg)
                        seen["shape"] += piece.shape != ()
                        seen["loop"] += leg.start >= 0
                        seen["asked"] += leg.asked != []
                        seen["versions"] += len(leg.versions) > 1
                        seen["wrong"] += False in leg.truths
        self.assertTrue(all(many > 5 for many in seen.values()), seen)

    def match(self, found, leg):
        fits = [piece for piece in found if (piece.start, piece.answers, piece.trail, piece.stop) ==
                (leg.start, tuple(leg.answers), tuple(leg.trail), leg.stop) and
                all(leg.stands[loan] == array for loan, array in piece.shape)]
        self.assertEqual(1, len(fits))
        return fits[0]

    def compare(self, function, piece, leg):
        there = self.situation(piece, leg)
        begin = leg.begin.for_frame(function.start_frame) if leg.start == -1 else leg.begin
        claims = function.before if leg.start == -1 else function.notes[leg.start]
        self.assertEqual([begin.holds(claim) for claim in claims], [there.holds(claim) for claim in piece.claims])
        self.assertEqual(leg.truths, [there.holds(fact) for fact in piece.facts[len(piece.claims):]])
        ends = function.after if leg.stop == -1 else function.notes[leg.stop]
        expected = {("after" if leg.stop == -1 else "note", index): leg.end.holds(claim) for index, claim in enumerate(ends)}
        expected.update({("before", row, index): truth for row, index, truth in leg.asked})
        kinds = []
        for kind, question in piece.questions():
            if kind[0] == "inside":
                # Nothing was outside, so this is so wherever the cell was asked.
                context = [claim for claim in question.claims if claim not in piece.facts]
                self.assertTrue(there.holds(question.goal) or not all(there.holds(claim) for claim in context))
            else:
                kinds.append(kind)
                self.assertEqual(expected[kind], there.holds(question.goal))
        self.assertEqual(len(expected), len(kinds))

    def situation(self, piece, leg):
        """The situation of a piece that has what was so on the leg."""
        names = [array for array, length in piece.frame.arrays]
        first = len(names) - len(leg.versions)
        rows = {array: leg.begin.rows[array] for array in names[:first]}
        newest = {array: array for array in piece.names if array in rows}
        for version, (parameter, row) in zip(names[first:], leg.versions):
            rows[version] = row
            newest[parameter] = version
        self.assertEqual(newest, {array: piece.names[array] for array in newest})
        return Situation(piece.frame, rows, {word: leg.begin.positions.get(word, 0) for word in piece.frame.positions},
                         {word: leg.begin.amounts.get(word, 0) for word in piece.frame.amounts})

    def test_loans_of_the_document(self):
        found = pieces(LENT, "f")
        self.assertEqual([(-1, (), (), 0), (0, (("r", "p"),), (False,), -1), (0, (("r", "p"),), (True,), 0)], told(found))
        self.assertEqual({"p": "wa", "r": "wa", "s": "wa"}, found[2].names)
        self.assertEqual({"p": "p", "r": "p"}, found[1].names)


if __name__ == "__main__":
    unittest.main()
