"""Facts about loans: states, uses, what is behind rows, and faults."""

import unittest

from lentcells.code.functions import Function
from lentcells.code.programs import Program
from lentcells.errors import InvalidNumber, InvalidOperation, InvalidProgram, UnknownName
from lentcells.loans.facts import behind, faults_of, first_state, is_state, next_rows, uses
from making import BOTH, FILL, LENT, SHARED, TRUE, Maker, PlainLoans, one_function, plain_rows
from samples import JUNK, deep_junk, with_lists

HEADING = {
    "arrays": (("full", "a", "n", "wa"), ("look", "b", "n")), "positions": ("i",), "values": ("x",),
    "loans": (("full", "r", "n"), ("look", "s", "n"), ("full", "t", "n")), "places": ("j",), "numbers": ("y",),
}
# A function that hands over: full, look, look.
TAKES = Function("g", arrays=(("full", "a", "n", "w"), ("look", "b", "n"), ("look", "c", "n")), values=("x", "y"))
EMPTY = (("empty", "r"), ("empty", "s"), ("empty", "t"))
CELL = ("val", "<", ("s", "j", 0, 0), ("r", "n", -1, 2))


def program(*rows, notes=()):
    """A program with a function f of these rows."""
    return Program((Function("f", **HEADING, rows=rows, notes=notes), TAKES))


def state(*facts):
    """The state with these facts, each in one text."""
    return tuple(sorted(tuple(fact.split()) for fact in facts))


class StateTest(unittest.TestCase):
    """What facts and states are."""

    def setUp(self):
        self.program = program()

    def test_first_state(self):
        self.assertEqual(EMPTY, first_state(self.program, "f"))
        self.assertEqual((), first_state(BOTH, "fill"))
        self.assertEqual((("empty", "r"),), first_state(BOTH, "twice"))

    def test_states(self):
        for value in ((), EMPTY, EMPTY[1:], (("empty", "r"), ("ended", "r"), ("held", "r")), state("into r a", "into r b", "into r s"),
                      state("into s r", "into r s"), (("held", "t"), ("into", "s", "t"))):
            self.assertIs(is_state(self.program, "f", value), True)

    def test_what_is_no_state(self):
        right = state("held r", "into r a", "into r s")
        self.assertTrue(is_state(self.program, "f", right))
        for value in (EMPTY[::-1], EMPTY[:1] * 2, right[:1] + right, right[::-1], list(right), (list(right[0]),), right[0],
                      (("empty", "a"),), (("held", "b"),), (("ended", "wa"),), (("empty", "wa"),), (("into", "r", "r"),),
                      (("into", "r", "wa"),), (("into", "r", "k"),), (("into", "r", "n"),), (("into", "a", "r"),), (("held", "k"),),
                      (("into", "r", "i"),), (("held", "r", "a"),), (("into", "r"),), (("Held", "r"),), ((True, "r"),), (("held", True),),
                      (("held", ("r",)),), (("into", "r", None),), ((),), (None,), ("held", "r"), (("held",),), (("into", "r", "a", "b"),)):
            self.assertIs(is_state(self.program, "f", value), False)
        for value in JUNK + (deep_junk(), *with_lists(right)):
            if value != ():
                self.assertIs(is_state(self.program, "f", value), False)

    def test_states_are_of_a_function(self):
        self.assertTrue(is_state(BOTH, "twice", (("empty", "r"),)))
        self.assertFalse(is_state(BOTH, "fill", (("empty", "r"),)))


class NextTest(unittest.TestCase):
    """What comes next, and what rows use."""

    def test_next_rows(self):
        inner = ("if", TRUE, (("move", "j", ("", 0)),), ())
        made = program(("while", TRUE, ()), ("while", TRUE, (inner, ("if", TRUE, (), (("move", "j", ("", 1)),)))),
                       ("if", TRUE, (), ()), ("if", TRUE, (("move", "j", ("", 2)),), (("move", "j", ("", 3)), ("move", "j", ("", 4)))),
                       notes=((), ()))
        expected = [(0, 1), (2, 6), (3, 4), (4,), (1, 5), (1,), (7,), (8, 9), (11,), (10,), (11,), ()]
        self.assertEqual(expected, [next_rows(made, "f", row) for row in range(12)])
        self.assertEqual((), next_rows(program(), "f", 0))
        last = program(("while", TRUE, (("while", TRUE, (("while", TRUE, ()),)),)), notes=((),) * 3)
        self.assertEqual([(1, 3), (0, 2), (1, 2), ()], [next_rows(last, "f", row) for row in range(4)])

    def test_uses(self):
        look, full = "look", "full"
        for row, expected in (
                (("move", "j", ("n", 0)), ()), (("keep", "y", ("x", 0)), ()), (("keep", "y", ("s", "n", 0, 1)), ((look, "s"),)),
                (("write", "r", "j", 0, ("x", 0)), ((full, "r"),)), (("write", "r", "j", 0, ("a", "j", 0, 0)), ((look, "a"), (full, "r"))),
                (("write", "r", "j", 0, ("r", "j", 0, 0)), ((look, "r"), (full, "r"))),
                (("lend", "r", "a"), ((full, "a"),)), (("lend", "s", "a"), ((look, "a"),)), (("lend", "s", "r"), ((look, "r"),)),
                (("call", "g", ("a", "r", "a"), (), (("b", "", 0, 0), ("x", 0))), ((look, "b"), (full, "a"), (look, "r"), (look, "a"))),
                (("call", "g", ("t", "b", "s"), (), (("s", "", 0, 0), ("r", "i", 0, 0))),
                 ((look, "s"), (look, "r"), (full, "t"), (look, "b"), (look, "s"))),
                (("if", CELL, (("write", "a", "j", 0, ("b", "j", 0, 0)),), ()), ((look, "s"), (look, "r"))),
                (("while", ("and", (("not", CELL), ("or", (("pos", "<", ("i", 0), ("n", 0)), ("val", "==", ("b", "", 0, 0), ("s", "", 0, 0)))))), ()),
                 ((look, "s"), (look, "r"), (look, "b"), (look, "s")))):
            notes = ((("val", "<", ("t", "", 0, 0), ("", 0)),),) if row[0] == "while" else ()
            made = program(row, notes=notes)
            self.assertEqual(expected, uses(made, "f", 0))
            self.assertEqual((), uses(made, "f", len(made["f"])))


class BehindTest(unittest.TestCase):
    """What is so behind rows."""

    def check(self, row, ahead, expected, notes=()):
        made = program(row, notes=notes)
        self.assertEqual(state(*expected), behind(made, "f", 0, state(*ahead)), (row, ahead))
        self.assertEqual(state(*ahead), behind(made, "f", len(made["f"]), state(*ahead)))

    def test_lends_of_parameters(self):
        self.check(("lend", "r", "a"), ("empty r", "empty s"), ("held r", "into r a", "empty s"))
        self.check(("lend", "r", "a"), ("ended r", "held r", "into r t", "held t"), ("held r", "into r a", "held t"))
        # A full lend ends all that reaches into the array, and what reached into the loan does so no more.
        self.check(("lend", "r", "a"), ("held s", "into s a", "held t", "into t a", "into t r"),
                   ("held r", "into r a", "held s", "into s a", "ended s", "held t", "into t a", "ended t"))
        # A looking one ends full loans alone.
        self.check(("lend", "s", "a"), ("held r", "into r a", "held t", "into t r", "into t a"),
                   ("held s", "into s a", "held r", "into r a", "ended r", "held t", "into t r", "into t a", "ended t"))
        self.check(("lend", "s", "b"), ("into r b", "into s b", "into t a"), ("into r b", "ended r", "held s", "into s b", "into t a"))

    def test_lends_of_loans(self):
        self.check(("lend", "r", "t"), ("empty r", "empty t"), ("empty r", "empty t"))
        self.check(("lend", "r", "t"), ("empty r", "held t", "into t a"), ("held r", "into r t", "into r a", "held t", "into t a"))
        self.check(("lend", "r", "t"), ("held t", "ended t", "into t a", "into t s"),
                   ("held r", "into r t", "into r a", "into r s", "held t", "ended t", "into t a", "into t s"))
        # A loan that is lent something that reaches into it reaches into the rest alone.
        self.check(("lend", "r", "t"), ("held r", "into r a", "held t", "into t a", "into t r"),
                   ("held r", "into r t", "into r a", "held t", "into t a"))
        self.check(("lend", "r", "t"), ("held r", "into r t", "held t"), ("held r", "into r t", "held t"))
        # A state can have facts that no walk has together.
        self.check(("lend", "r", "t"), ("empty t", "held t"), ("empty r", "held r", "into r t", "empty t", "held t"))
        self.check(("lend", "s", "r"), ("held r", "into r a", "held t", "into t r"),
                   ("held s", "into s r", "into s a", "held r", "into r a", "held t", "into t r", "ended t"))

    def test_other_rows(self):
        ahead = ("held r", "into r a", "held s", "into s a", "held t", "into t r", "into t a")
        self.check(("move", "j", ("n", 0)), ahead, ahead)
        self.check(("keep", "y", ("b", "", 0, 0)), ahead, ahead)
        self.check(("keep", "y", ("a", "", 0, 0)), ahead, (*ahead, "ended r", "ended t"))
        self.check(("keep", "y", ("r", "", 0, 0)), ahead, (*ahead, "ended t"))
        self.check(("keep", "y", ("t", "", 0, 0)), ahead, ahead)
        self.check(("write", "a", "", 0, ("x", 0)), ahead, (*ahead, "ended r", "ended s", "ended t"))
        self.check(("write", "r", "", 0, ("x", 0)), ahead, (*ahead, "ended t"))
        self.check(("if", ("not", ("val", "<", ("a", "", 0, 0), ("", 0))), (), ()), ahead, (*ahead, "ended r", "ended t"))
        self.check(("while", ("val", "<", ("r", "", 0, 0), ("x", 0)), ()), ahead, (*ahead, "ended t"), notes=((),))
        self.check(("while", TRUE, ()), ahead, ahead, notes=((("val", "<", ("a", "", 0, 0), ("", 0)),),))
        self.check(("call", "g", ("t", "b", "b"), (), (("", 0), ("", 0))), ahead, ahead)
        self.check(("call", "g", ("a", "b", "b"), (), (("", 0), ("", 0))), ahead, (*ahead, "ended r", "ended s", "ended t"))
        self.check(("call", "g", ("r", "a", "b"), (), (("", 0), ("", 0))), ahead, (*ahead, "ended r", "ended t"))
        self.check(("call", "g", ("t", "b", "b"), (), (("r", "", 0, 0), ("", 0))), ahead, (*ahead, "ended t"))

    def test_empty_and_ended_states(self):
        self.check(("write", "r", "", 0, ("s", "", 0, 0)), (), ())
        self.check(("write", "r", "", 0, ("s", "", 0, 0)), ("empty r", "empty s", "ended t"), ("empty r", "empty s", "ended t"))
        self.check(("write", "r", "", 0, ("", 0)), ("into s r", "ended s"), ("into s r", "ended s"))

    def test_walks_by_the_words_of_the_document(self):
        rows = 0
        for seed in range(40):
            maker = Maker(seed)
            made = maker.program(maker.random.choice((1, 2, 3)), maker.random.choice((4, 8, 16)))
            for function in made:
                flat = plain_rows(function)
                self.assertEqual([tuple(sorted(set(ways))) for row, ways in flat],
                                 [next_rows(made, function.called, at) for at in range(len(flat))])
                for _ in range(5):
                    rows += self.check_walk(made, function.called, flat, maker.walk(made, function.called, 15))
        self.assertGreater(rows, 500)

    def check_walk(self, made, called, flat, walk):
        plain, ahead = PlainLoans(made, called), first_state(made, called)
        for at in walk:
            self.assertEqual(plain.state(), ahead)
            faults = faults_of(made, called, at, ahead)
            self.assertEqual(plain.do(at, flat[at][0]), list(faults))
            ahead = behind(made, called, at, ahead)
            self.assertTrue(is_state(made, called, ahead))
        self.assertEqual(plain.state(), ahead)
        return len(walk)


class FaultsTest(unittest.TestCase):
    """The faults of rows."""

    def check(self, row, ahead, expected, notes=()):
        made = program(row, notes=notes)
        self.assertEqual(tuple(expected), faults_of(made, "f", 0, state(*ahead)), (row, ahead))
        self.assertEqual((), faults_of(made, "f", len(made["f"]), state(*ahead)))

    def test_empty_and_ended(self):
        write = ("write", "r", "", 0, ("s", "", 0, 0))
        self.check(write, (), ())
        self.check(write, ("held r", "held s"), ())
        self.check(write, ("empty r", "empty s", "ended t", "empty t"), (("empty", "s"), ("empty", "r")))
        self.check(write, ("ended r", "ended s", "empty s"), (("empty", "s"), ("ended", "s"), ("ended", "r")))
        self.check(("lend", "r", "t"), ("ended r", "empty r"), ())
        self.check(("lend", "r", "t"), ("ended t", "empty t"), (("empty", "t"), ("ended", "t")))
        self.check(("move", "j", ("", 0)), ("ended r", "empty r"), ())
        # Each fault once, where it comes first.
        self.check(("write", "r", "", 0, ("r", "", 0, 0)), ("ended r",), (("ended", "r"),))

    def test_uses_ahead_in_the_row(self):
        self.check(("write", "r", "", 0, ("a", "", 0, 0)), ("held r", "into r a"), (("ended", "r"),))
        self.check(("write", "a", "", 0, ("r", "", 0, 0)), ("held r", "into r a"), ())
        self.check(("if", ("and", (("val", "<", ("a", "", 0, 0), ("s", "", 0, 0)), ("val", "<", ("t", "", 0, 0), ("", 0)))), (), ()),
                   ("into s a", "into t a"), (("ended", "t"),))
        self.check(("lend", "t", "r"), ("into r t", "into r a"), ())

    def test_notes_of_a_while(self):
        notes = ((("val", "<", ("t", "", 0, 0), ("s", "", 0, 0)), ("val", "<", ("r", "", 0, 0), ("a", "", 0, 0)), TRUE),)
        row = ("while", ("val", "<", ("a", "", 0, 0), ("t", "", 0, 0)), ())
        self.check(row, (), (), notes)
        self.check(row, ("empty t", "ended s", "empty s", "ended r"),
                   (("ended", "r"), ("empty", "s"), ("ended", "s"), ("empty", "t")), notes)
        # Notes end nothing, and come ahead of the uses.
        self.check(row, ("into t a", "into r a"), (("ended", "t"),), notes)
        self.check(row, ("into t a", "ended r"), (("ended", "r"), ("ended", "t")), notes)
        own = ("all", ("k",), ("pos", "<=", ("k", 0), ("i", 0)), ("val", "<", ("r", "k", 0, 0), ("", 0)))
        self.check(("while", TRUE, ()), ("empty r", "empty s"), (("empty", "r"),), ((own,),))
        # Only the notes of this loop.
        made = program(("while", TRUE, (("while", TRUE, ()),)), notes=((own,), ()))
        self.assertEqual([(("empty", "r"),), ()], [faults_of(made, "f", row, (("empty", "r"),)) for row in (0, 1)])

    def test_arguments(self):
        def call(*arrays):
            return ("call", "g", arrays, (), (("", 0), ("", 0)))
        held = ("held r", "into r a", "held s", "into s a")
        self.check(call("a", "b", "b"), held, ())
        self.check(call("a", "a", "b"), (), (("argument", 0),))
        self.check(call("a", "b", "a"), (), (("argument", 0),))
        self.check(call("a", "a", "a"), (), (("argument", 0),))
        # The loan is lent first, and the array into which it reaches behind it.
        self.check(call("r", "a", "b"), held, (("argument", 0),))
        self.check(call("r", "b", "r"), held, (("argument", 0),))
        # The array first: the use of it ends the loan.
        self.check(call("a", "r", "b"), held, (("ended", "r"),))
        self.check(call("a", "s", "b"), held, (("ended", "s"),))
        self.check(call("t", "s", "a"), ("held t", "held s", "into s a"), ())
        self.check(call("t", "r", "a"), ("held t", "held r", "into r a"), ())
        self.check(call("t", "a", "r"), ("held t", "held r", "into r a"), (("ended", "r"),))
        self.check(call("t", "a", "s"), ("held t", "held s", "into s a"), ())
        self.check(call("t", "r", "a"), ("into t r", "into t a", "into r a"), (("argument", 0),))
        self.check(call("r", "s", "s"), (*held, "into s r"), (("ended", "s"),))
        self.check(call("t", "b", "b"), ("empty t", "ended t"), (("empty", "t"), ("ended", "t")))

    def test_several_arguments_that_are_wrong(self):
        both = Function("g", arrays=tuple(("full", word, "n", "w" + word) for word in "abc"))
        full = tuple(("full", word, "n", "w" + word) for word in "pq")
        made = Program((Function("f", arrays=full, rows=(("call", "g", ("p", "p", "p"), (), ()), ("call", "g", ("p", "q", "q"), (), ()),
                                                        ("call", "g", ("p", "q", "p"), (), ()))), both))
        self.assertEqual([(("argument", 0), ("argument", 1)), (("argument", 1),), (("argument", 0),)],
                         [faults_of(made, "f", row, ()) for row in range(3)])

    def test_looks_alone_have_none(self):
        looks = Function("g", arrays=(("look", "a", "n"), ("look", "b", "n")))
        made = Program((Function("f", arrays=(("full", "p", "n", "w"),), loans=(("look", "s", "n"), ("full", "r", "n")),
                                 rows=(("call", "g", ("p", "p"), (), ()), ("call", "g", ("s", "p"), (), ()), ("call", "g", ("p", "s"), (), ()),
                                       ("call", "g", ("p", "r"), (), ()))), looks))
        ahead = (("into", "r", "p"), ("into", "s", "p"))
        self.assertEqual([(), (), (), (("ended", "r"),)], [faults_of(made, "f", row, ahead) for row in range(4)])

    def test_of_the_document(self):
        self.assertEqual((("argument", 0),), faults_of(SHARED, "twice", 1, (("held", "r"), ("into", "r", "c"))))


class ErrorsTest(unittest.TestCase):
    """Wrong arguments, and which of them decides."""

    def calls(self, made, called, row, ahead):
        return [lambda: behind(made, called, row, ahead), lambda: faults_of(made, called, row, ahead),
                lambda: next_rows(made, called, row), lambda: uses(made, called, row)]

    def test_programs_and_names(self):
        for value in JUNK + (deep_junk(), FILL, (FILL,)):
            for call in [lambda: first_state(value, None), lambda: is_state(value, None, None), *self.calls(value, None, None, None)]:
                with self.assertRaises(InvalidProgram):
                    call()
            for call in [lambda: first_state(LENT, value), lambda: is_state(LENT, value, None), *self.calls(LENT, value, None, None)]:
                with self.assertRaises(UnknownName) as caught:
                    call()
                self.assertEqual(value, caught.exception.name)

    def test_rows_and_states(self):
        for value in (6, -1, 10 ** 70, True, None, "0", (0,), [], LENT):
            for call in self.calls(LENT, "f", value, None):
                with self.assertRaises(InvalidNumber) as caught:
                    call()
                self.assertEqual(value, caught.exception.number)
        for value in (None, [], (None,), (("held", "p"),), (("held", "s"), ("held", "r")), (("empty", "q"),), {}):
            for row in range(6):
                for call in self.calls(LENT, "f", row, value)[:2]:
                    with self.assertRaises(InvalidOperation):
                        call()

    def test_a_function_of_one_row(self):
        made = one_function(rows=(("call", "f", (), (), ()),))
        self.assertEqual([(1,), ()], [next_rows(made, "f", row) for row in (0, 1)])
        for value in (True, False):
            for call in self.calls(made, "f", value, ()):
                with self.assertRaises(InvalidNumber):
                    call()

    def test_names_of_four_letters_are_no_cells(self):
        made = one_function(arrays=(("full", "long", "size", "kept"),), loans=(("look", "lent", "size"),), places=("spot",),
                            rows=(("lend", "lent", "long"), ("move", "spot", ("size", 0))))
        self.assertEqual([(("look", "long"),), ()], [uses(made, "f", row) for row in (0, 1)])


if __name__ == "__main__":
    unittest.main()
