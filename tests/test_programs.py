"""Programs: functions whose calls fit."""

import itertools
import unittest

from lentcells.code.functions import Function
from lentcells.code.programs import MAX_FUNCTIONS, Program
from lentcells.errors import InvalidFunction, InvalidOperation, InvalidProgram, UnknownName
from making import BOTH, FILL, TWICE
from samples import JUNK, deep_junk


def calling(called, *callees):
    """A function that calls others, without arguments."""
    return Function(called, rows=tuple(("call", callee, (), (), ()) for callee in callees))


# Two array parameters of one length and one of another one, two positions and a value.
TAKES = Function("takes", arrays=(("full", "a", "n", "wa"), ("look", "b", "n"), ("look", "c", "m")),
                 positions=("i", "j"), values=("x",))
GIVES = Function("gives", arrays=(("full", "a", "n", "wa"), ("look", "b", "n"), ("look", "c", "m"), ("full", "d", "m", "wd")),
                 loans=(("full", "r", "n"), ("look", "s", "n"), ("look", "t", "m")))


def giving(arrays, positions=(("", 0), ("n", 0)), values=(("", 0),), called="takes"):
    """The functions of which one calls the other with these arguments."""
    return (GIVES.with_rows((("call", called, arrays, positions, values),), ()), TAKES)


class ProgramTest(unittest.TestCase):
    """One to six functions."""

    def wrong(self, functions):
        with self.assertRaises(InvalidProgram):
            Program(functions)

    def test_how_many(self):
        self.assertEqual(6, MAX_FUNCTIONS)
        functions = tuple(calling(called) for called in "fedcba")
        for many in range(1, 7):
            program = Program(functions[:many])
            self.assertEqual((many, many), (len(program), len(program.functions)))
        self.assertEqual(tuple("abcdef"), program.names)
        self.wrong(functions + (calling("g"),))
        self.wrong(())

    def test_any_order(self):
        functions = (calling("a", "b"), calling("b"), calling("c", "c"))
        programs = [Program(order) for order in itertools.permutations(functions)]
        for program in programs:
            self.assertEqual(programs[0], program)
            self.assertEqual(functions, program.functions)
            self.assertEqual(functions, tuple(program))
            self.assertEqual(("a", "b", "c"), program.names)

    def test_wrong_functions(self):
        self.wrong((FILL, FILL))
        self.wrong((FILL, calling("fill")))
        self.wrong((TWICE,))
        for value in JUNK + (deep_junk(), [FILL], FILL, (FILL, None), ((FILL,),), {"fill": FILL}, BOTH, (BOTH,)):
            self.wrong(value)

    def test_right_calls(self):
        for arrays in (("a", "b", "c"), ("a", "a", "a"), ("r", "s", "t"), ("d", "c", "a"), ("d", "d", "b"), ("a", "r", "t")):
            self.assertEqual(("gives",), Program(giving(arrays)).callers("takes"))

    def test_wrong_calls(self):
        for arrays in ((), ("a", "b"), ("a", "b", "c", "d"), ("b", "a", "c"), ("s", "a", "c"), ("c", "c", "a"), ("t", "c", "a"),
                       ("a", "c", "c"), ("a", "d", "b"), ("r", "t", "c")):
            self.wrong(giving(arrays))
        right = ("a", "b", "c")
        for more in (((("", 0),),), ((("", 0),) * 3,), ((), ()), ((("", 0),) * 2, ()), ((("", 0),) * 2, (("", 0),) * 2)):
            self.wrong(giving(right, *more))
        self.wrong(giving(right, called="take"))
        self.wrong(giving(right)[:1])

    def test_calls_within_other_rows(self):
        inner = ("while", ("and", ()), (("if", ("and", ()), (), (("call", "b", (), (), ()),)),))
        function = Function("a", rows=(inner,), notes=((),))
        self.assertEqual(("a",), Program((function, calling("b"))).callers("b"))
        self.wrong((function,))
        self.wrong((function, Function("b", positions=("i",))))

    def test_calls_of_itself_and_of_one_another(self):
        ring = Program((calling("a", "b"), calling("b", "c", "a"), calling("c", "c")))
        self.assertEqual(("b", "c"), ring.callers("c"))
        self.assertEqual([("a", "b", "c"), ("a", "b", "c"), ("c",)], [ring.needed(called) for called in "abc"])

    def test_needed(self):
        chain = Program((calling("a", "b"), calling("b", "d"), calling("c", "a"), calling("d", "e"), calling("e"), calling("f", "f", "e")))
        self.assertEqual([("a", "b", "d", "e"), ("b", "d", "e"), ("a", "b", "c", "d", "e"), ("d", "e"), ("e",), ("e", "f")],
                         [chain.needed(called) for called in "abcdef"])
        self.assertEqual([("c",), ("a",), (), ("b",), ("d", "f"), ("f",)], [chain.callers(called) for called in "abcdef"])

    def test_names(self):
        self.assertEqual((FILL, TWICE), (BOTH["fill"], BOTH["twice"]))
        self.assertIn("fill", BOTH)
        for value in JUNK + (deep_junk(), "a", FILL, "Fill", ("fill",), ["fill"]):
            self.assertNotIn(value, BOTH)
            for call in (lambda: BOTH[value], lambda: BOTH.callers(value), lambda: BOTH.needed(value), lambda: BOTH.without(value)):
                with self.assertRaises(UnknownName) as caught:
                    call()
                self.assertEqual(value, caught.exception.name)

    def test_with_function(self):
        other = FILL.with_notes(0, ())
        made = BOTH.with_function(other)
        self.assertEqual((other, FILL), (made["fill"], BOTH["fill"]))
        self.assertEqual(3, len(BOTH.with_function(calling("new", "new"))))
        self.assertEqual(2, len(BOTH))
        for value in JUNK + (deep_junk(), (FILL,), BOTH, "fill"):
            with self.assertRaises(InvalidFunction):
                BOTH.with_function(value)
        for function in (calling("fill"), calling("new", "fill"), calling("new", "old")):
            with self.assertRaises(InvalidProgram):
                BOTH.with_function(function)
        full = Program(tuple(calling(called) for called in "abcdef"))
        with self.assertRaises(InvalidProgram):
            full.with_function(calling("g"))
        self.assertEqual(6, len(full.with_function(calling("a", "f"))))

    def test_without(self):
        self.assertEqual(Program((FILL,)), BOTH.without("twice"))
        for call in (lambda: BOTH.without("fill"), lambda: BOTH.without("twice").without("fill")):
            with self.assertRaises(InvalidProgram):
                call()

    def test_renamed(self):
        made = BOTH.renamed({"fill": "twice", "twice": "a"})
        self.assertEqual(("a", "twice"), made.names)
        self.assertEqual(("twice",), made["a"].callees)
        self.assertEqual(FILL.rows, made["twice"].rows)
        self.assertEqual(BOTH, made.renamed({"twice": "fill", "a": "twice"}))
        self.assertEqual(BOTH, BOTH.renamed({}))
        exchanged = BOTH.renamed({"fill": "twice", "twice": "fill"})
        self.assertEqual(("fill",), exchanged.callers("twice"))
        inner = Function("a", rows=(("while", ("and", ()), (("if", ("and", ()), (("call", "a", (), (), ()),), ()),)),), notes=((),))
        self.assertEqual(("b",), Program((inner,)).renamed({"a": "b"})["b"].callees)
        for names in (None, (), {"a": "b"}, {"fill": "twice"}, {"fill": "c", "twice": "c"}, {"fill": ""}, {"fill": "Fill"},
                      {"fill": None}, {1: "a"}, {("fill",): "a"}, {"fill": ["a"]}, [("fill", "a")], BOTH):
            with self.assertRaises(InvalidOperation):
                BOTH.renamed(names)
        self.assertEqual(("fill", "twice"), BOTH.names)

    def test_equality_and_text(self):
        self.assertEqual("program of 2 functions, 7 rows", str(BOTH))
        self.assertEqual("program of 1 functions, 0 rows", str(Program((calling("a"),))))
        self.assertNotEqual(BOTH, BOTH.without("twice"))
        self.assertNotEqual(BOTH, BOTH.with_function(FILL.with_notes(0, ())))
        for value in JUNK + ((FILL, TWICE), FILL):
            self.assertNotEqual(BOTH, value)


if __name__ == "__main__":
    unittest.main()
