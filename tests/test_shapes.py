"""Shapes: wanted loans, and the parameters into which they reach at loops."""

import unittest

from lentcells.code.functions import Function
from lentcells.code.programs import Program
from lentcells.errors import InvalidNumber, InvalidOperation, InvalidProgram, UnknownName
from lentcells.loans.shapes import is_shape, shape_of, shapes, wanted
from lentcells.loans.tables import Table
from lentcells.loans.trails import Trail
from making import BOTH, FILL, LENT, SHARED, TRUE, Maker, one_function, plain_rows
from samples import JUNK, deep_junk, with_lists

ZERO = ("", 0)
USE_R = ("write", "r", "", 0, ZERO)
USE_S = ("write", "s", "", 0, ZERO)
LEND_R = ("lend", "r", "a")
HEADING = {"arrays": (("full", "a", "n", "wa"), ("full", "b", "n", "wb"), ("look", "c", "n")),
           "loans": (("full", "r", "n"), ("full", "s", "n"), ("look", "t", "n"))}


def program(*rows, notes):
    """A program of a function f with three parameters and three loans."""
    return one_function(**HEADING, rows=rows, notes=notes)


def naming(loan):
    """A note that names a loan."""
    return ("val", "<=", (loan, "", 0, 0), ("", 0))


class WantedTest(unittest.TestCase):
    """Which loans are wanted at loops."""

    def check(self, expected, *rows, notes=None):
        loops = sum(row[0] == "while" for row, ways in plain_rows(program_rows(rows)))
        made = program(*rows, notes=((),) * loops if notes is None else notes)
        self.assertEqual(expected, tuple(wanted(made, "f", loop) for loop in range(loops)))

    def test_used_behind_the_loop_only(self):
        self.check((("r",),), LEND_R, ("while", TRUE, ()), USE_R)

    def test_used_in_the_body_only(self):
        self.check((("r",),), LEND_R, ("while", TRUE, (USE_R,)))

    def test_used_in_an_inner_loop(self):
        self.check((("r",), ("r",)), LEND_R, ("while", TRUE, (("while", TRUE, (USE_R,)),)))
        self.check((("r",), ("r",)), LEND_R, ("while", TRUE, (USE_R, ("while", TRUE, ()))))

    def test_used_by_the_condition(self):
        self.check((("t",),), ("lend", "t", "a"), ("while", naming("t"), ()))
        self.check((("t",),), ("lend", "t", "a"), ("while", TRUE, (("if", ("not", naming("t")), (), ()),)))

    def test_named_by_notes(self):
        self.check((("r",),), LEND_R, ("while", TRUE, ()), notes=((naming("r"),),))
        self.check((("r", "t"), ("t",)), LEND_R, ("lend", "t", "c"), ("while", TRUE, (USE_R,)), ("while", TRUE, ()), notes=((), (naming("t"),)))
        # Lent anew behind the loop, ahead of the notes.
        self.check(((), ("r",)), LEND_R, ("while", TRUE, ()), ("lend", "r", "b"), ("while", TRUE, ()), notes=((), (naming("r"),)))

    def test_lent_anew_ahead_of_each_use(self):
        self.check(((),), ("while", TRUE, (LEND_R, USE_R)), LEND_R, USE_R)
        self.check((("r",),), LEND_R, ("while", TRUE, (LEND_R, USE_R)), USE_R)
        self.check((("r",),), LEND_R, ("while", TRUE, (("if", TRUE, (LEND_R,), ()), USE_R)))

    def test_used_by_lending(self):
        # s is lent from r: a use of r alone.
        self.check((("r",),), LEND_R, ("lend", "s", "b"), ("while", TRUE, (("lend", "s", "r"), USE_S)))

    def test_used_by_calls(self):
        takes = Function("g", arrays=(("full", "x", "n", "w"), ("look", "y", "n")), values=("v",))
        made = Program((Function("f", **HEADING, rows=(LEND_R, ("lend", "s", "b"), ("lend", "t", "c"), ("while", TRUE, ()),
                                                       ("call", "g", ("r", "s"), (), (("t", "", 0, 0),))), notes=((),)), takes))
        self.assertEqual(("r", "s", "t"), wanted(made, "f", 0))

    def test_none(self):
        self.check(((),), ("while", TRUE, ()))
        self.check(((),), LEND_R, ("lend", "t", "c"), USE_R, ("while", TRUE, ()))


def program_rows(rows):
    """A function whose rows are these, only to go through them."""
    class Rows:
        pass
    made = Rows()
    made.rows = rows
    return made


class ShapesTest(unittest.TestCase):
    """All shapes at loops."""

    def of(self, *rows, loop=0, loops=1):
        made = program(*rows, notes=((),) * loops)
        found = shapes(made, "f", loop)
        for shape in found:
            self.assertIs(is_shape(made, "f", loop, shape), True)
        return found

    def test_none_wanted(self):
        self.assertEqual(((),), self.of(("while", TRUE, ())))
        self.assertEqual(((),), self.of(LEND_R, ("while", TRUE, ())))

    def test_one_wanted(self):
        self.assertEqual(((("r", "a"),),), self.of(LEND_R, ("while", TRUE, (USE_R,))))
        either = ("if", TRUE, (LEND_R,), (("lend", "r", "b"),))
        self.assertEqual(((("r", "a"),), (("r", "b"),)), self.of(either, ("while", TRUE, (USE_R,))))

    def test_two_wanted(self):
        either = ("if", TRUE, (LEND_R, ("lend", "s", "b")), (("lend", "r", "b"), ("lend", "s", "a")))
        both = (("r", "a"), ("s", "b")), (("r", "b"), ("s", "a"))
        # Neither of both reaches into the other one, so they have no parameter in common; no walk is asked for that.
        self.assertEqual(both, self.of(either, ("while", TRUE, (USE_R, USE_S))))

    def test_all_is_told_in_ascending_order(self):
        # The loans and parameters stand in descending order in the function.
        made = one_function(arrays=(("full", "q", "n", "wq"), ("full", "p", "n", "wp")), loans=(("full", "s", "n"), ("full", "r", "n")), notes=((),),
                            rows=(("if", TRUE, (("lend", "s", "q"), ("lend", "r", "p")), (("lend", "s", "p"), ("lend", "r", "q"))),
                                  ("while", TRUE, (USE_S, USE_R))))
        self.assertEqual(("r", "s"), wanted(made, "f", 0))
        both = (("r", "p"), ("s", "q")), (("r", "q"), ("s", "p"))
        self.assertEqual(both, shapes(made, "f", 0))
        self.assertEqual(both, (shape_of(made, "f", 0, (0, 1, 2)), shape_of(made, "f", 0, (0, 3, 4))))
        either = one_function(arrays=(("full", "q", "n", "wq"), ("full", "p", "n", "wp")), loans=(("full", "r", "n"),), notes=((),),
                              rows=(("if", TRUE, (("lend", "r", "q"),), (("lend", "r", "p"),)), ("while", TRUE, (USE_R,))))
        self.assertEqual(((("r", "p"),), (("r", "q"),)), shapes(either, "f", 0))

    def test_a_shape_that_no_walk_has(self):
        rows = (("if", TRUE, (("lend", "r", "a"), ("lend", "t", "b")), (("lend", "r", "b"), ("lend", "t", "c"))),
                ("while", ("val", "<", ("t", "", 0, 0), ("r", "", 0, 0)), ()))
        found = self.of(*rows)
        self.assertEqual(((("r", "a"), ("t", "b")), (("r", "a"), ("t", "c")), (("r", "b"), ("t", "c"))), found)
        made = program(*rows, notes=((),))
        had = {shape_of(made, "f", 0, walk) for walk in ((0, 1, 2), (0, 3, 4))}
        self.assertEqual({(("r", "a"), ("t", "b")), (("r", "b"), ("t", "c"))}, had)

    def test_one_reaches_into_the_other(self):
        rows = (LEND_R, ("lend", "s", "r"), ("while", TRUE, ()), USE_S, USE_R)
        self.assertEqual(((("r", "a"), ("s", "a")),), self.of(*rows))
        rows = (("lend", "s", "a"), ("lend", "r", "s"), ("while", TRUE, ()), USE_R, USE_S)
        self.assertEqual(((("r", "a"), ("s", "a")),), self.of(*rows))

    def test_looks_of_one_parameter(self):
        looks = {**HEADING, "loans": (("look", "r", "n"), ("look", "s", "n"))}
        made = one_function(**looks, rows=(("lend", "r", "a"), ("lend", "s", "a"), ("while", naming("r"), ()), ("if", naming("s"), (), ())),
                            notes=((),))
        self.assertEqual(((("r", "a"), ("s", "a")),), shapes(made, "f", 0))

    def test_walks_have_shapes(self):
        had = 0
        for seed in range(150):
            maker = Maker(seed)
            made = maker.program(maker.random.choice((1, 2)), maker.random.choice((6, 12, 18)))
            for function in made:
                if Table(made, function.called).is_sound:
                    for loop in range(len(function.notes)):
                        had += self.check_walks(maker, made, function, loop)
        self.assertGreater(had, 100)

    def check_walks(self, maker, made, function, loop):
        found, many = shapes(made, function.called, loop), 0
        self.assertEqual(tuple(sorted(set(found))), found)
        flat = plain_rows(function)
        start = [at for at, (row, ways) in enumerate(flat) if row[0] == "while"][loop]
        self.assertEqual(self.plain_wanted(function, flat, start), wanted(made, function.called, loop))
        for _ in range(10):
            walk = maker.walk(made, function.called, 20)
            trail = Trail(made, function.called, walk)
            if start in trail.nexts:
                shape = shape_of(made, function.called, loop, walk)
                self.assertIn(shape, found)
                self.assertEqual(wanted(made, function.called, loop), tuple(loan for loan, parameter in shape))
                self.assertTrue(all(("into", *pair) in trail.facts for pair in shape))
                many += 1
            else:
                with self.assertRaises(InvalidOperation):
                    shape_of(made, function.called, loop, walk)
        return many

    def plain_wanted(self, function, flat, start):
        """Wanted loans by lending them from a name that is none, and looking for where they are asked for."""
        found = []
        for told in function.loans:
            seen, waiting, asked = set(), [start], False
            while waiting:
                at = waiting.pop()
                if at in seen or at == len(flat):
                    continue
                seen.add(at)
                row = flat[at][0]
                text = row[:2] if row[0] in ("if", "while") else row[2:] if row[0] in ("lend", "keep") else row
                notes = ()
                if row[0] == "while":
                    notes = function.notes[[number for number, pair in enumerate(flat) if pair[0][0] == "while"].index(at)]
                asked = asked or told[1] in words_of((text, notes))
                if row[:2] != ("lend", told[1]):
                    waiting += flat[at][1]
            if asked:
                found.append(told[1])
        return tuple(sorted(found))


def words_of(value):
    """All strings in a value."""
    if isinstance(value, str):
        return [value]
    return [word for part in value for word in words_of(part)] if isinstance(value, tuple) else []


class JudgedTest(unittest.TestCase):
    """Shapes that are judged, and wrong arguments."""

    def test_is_shape(self):
        right = (("r", "p"),)
        self.assertIs(is_shape(LENT, "f", 0, right), True)
        for value in JUNK + (deep_junk(), ("r", "p"), (("s", "p"),), (("r", "s"),), (("r", "w"),), right * 2, (("r", "p"), ("s", "p")),
                             *with_lists(right)):
            self.assertIs(is_shape(LENT, "f", 0, value), False)
        both = program(LEND_R, ("lend", "s", "b"), ("while", TRUE, (USE_R, USE_S)), notes=((),))
        self.assertIs(is_shape(both, "f", 0, (("r", "a"), ("s", "b"))), True)
        self.assertIs(is_shape(both, "f", 0, (("s", "b"), ("r", "a"))), False)
        none = program(("while", TRUE, ()), notes=((),))
        self.assertIs(is_shape(none, "f", 0, ()), True)

    def test_shape_of(self):
        for walk in ((0,), (0, 1, 2, 3, 4), (0, 1, 2, 3, 4, 1, 2, 3, 4)):
            self.assertEqual((("r", "p"),), shape_of(LENT, "f", 0, walk))
        # A walk can have more than 400 rows here.
        self.assertEqual((("r", "p"),), shape_of(LENT, "f", 0, (0,) + (1, 2, 3, 4) * 101))
        for walk in ((), (0, 1), (0, 1, 2), (1,), (0, 2), (0, 1, 2, 3, 4, 1), [0], (True,), None, "0", (0, 1, 5), LENT, deep_junk()):
            with self.assertRaises(InvalidOperation):
                shape_of(LENT, "f", 0, walk)

    def every(self, made, called, loop):
        return (lambda: wanted(made, called, loop), lambda: shapes(made, called, loop), lambda: is_shape(made, called, loop, None),
                lambda: shape_of(made, called, loop, None))

    def test_wrong_arguments(self):
        for value in JUNK + (deep_junk(), FILL):
            for call in self.every(value, None, None):
                with self.assertRaises(InvalidProgram):
                    call()
            for call in self.every(LENT, value, None):
                with self.assertRaises(UnknownName):
                    call()
        for value in (1, -1, 10 ** 70, True, False, None, "0", (), LENT):
            for call in self.every(LENT, "f", value):
                with self.assertRaises(InvalidNumber) as caught:
                    call()
                self.assertEqual(value, caught.exception.number)
        for value in (0, None):
            for call in self.every(BOTH, "twice", value) + self.every(SHARED, "twice", value):
                with self.assertRaises(InvalidNumber):
                    call()

    def test_functions_that_are_not_sound(self):
        made = program(("while", TRUE, (USE_R,)), notes=((),))
        for call in self.every(made, "f", 0) + (lambda: shape_of(made, "f", 0, ()),):
            with self.assertRaises(InvalidOperation):
                call()
        for call in self.every(made, "f", 1):
            with self.assertRaises(InvalidNumber):
                call()
        # Another function of the program can have faults.
        other = Program((*LENT, Function("g", **HEADING, rows=(USE_R,))))
        self.assertEqual(("r",), wanted(other, "f", 0))


if __name__ == "__main__":
    unittest.main()
