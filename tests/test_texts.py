"""Texts: writing and reading claims, rows, functions and situations."""

import random
import unittest

import samples
from lentcells.base.frames import Frame
from lentcells.code.functions import Function
from lentcells.code.programs import Program
from lentcells.errors import InvalidClaim, InvalidFrame, InvalidFunction, InvalidSituation, ParseError
from lentcells.runs.breaks import outcome
from lentcells.text.texts import (
    read_claim, read_function, read_functions, read_rows, read_situation, write_claim, write_function, write_functions, write_rows, write_situation)
from lentcells.world.situations import Situation
from making import ALL, BOTH, FALSE, FILL, LENT, OUTER, TRUE, TWICE, TWO, Maker
from plain_texts import Chart, wrong_at
from samples import JUNK, LONG, SHOWN, SIXTY, WIDE, deep_junk, nested, with_lists, with_trues

SET = Function("set", arrays=(("full", "a", "n", "o"),), positions=("p",), values=("x",), rows=(("write", "a", "p", 0, ("x", 0)),),
               before=(("pos", "<=", ("", 0), ("p", 0)), ("pos", "<", ("p", 0), ("n", 0))), after=(("val", "==", ("a", "p", 0, 0), ("x", 0)),))
SET_TEXT = "set(full a:n was o | p | x) with (- | - | -) before ([0 <= p] & [p < n]) after (a[p] == x) notes () { a[p] = x }"
WORDS = ("not", "and", "or", "all", "if", "while", "else", "lend", "call", "full", "look", "was", "with", "before", "after", "notes", "pos", "val")
# A function whose names are all words of texts.
WORDY = Function("notes", arrays=(("full", "if", "while", "else"), ("look", "all", "while")), positions=("not", "lend"), values=("and",),
                 loans=(("full", "call", "while"), ("look", "was", "while")), places=("or", "with"), numbers=("full", "before"),
                 rows=(("lend", "call", "if"), ("lend", "was", "call"), ("move", "or", ("lend", 1)), ("keep", "full", ("and", -1)), ("keep", "full", ("call", "not", 0, 2)),
                       ("write", "if", "lend", -1, ("was", "", 0, 0)), ("call", "else", ("if", "all"), (("or", 0), ("", -2)), (("all", "not", 1, -1),)),
                       ("while", ("val", "<", ("all", "not", 0, 0), ("and", 0)), (("if", ("not", ("val", "==", ("and", 0), ("full", 1))), (), (("move", "with", ("while", 0)),)),))),
                 before=(("all", ("or", "k"), ("pos", "<=", ("or", 0), ("k", 0)), ("val", "<", ("if", "or", 0, 0), ("and", 0))),), after=(("pos", "==", ("not", 0), ("lend", 0)),),
                 notes=((("or", ()), ("and", (("or", ()), ("val", "<=", ("", -5), ("full", 0))))),))
TERMS = {("i", 0): "i", ("i", 1): "i+1", ("i", -2): "i-2", ("", 7): "7", ("", -1): "-1", ("", 0): "0", ("not", -10): "not-10", ("abcdefgh", 0): "abcdefgh"}
CELLS = {("a", "i", 1, 0): "a[i+1]", ("a", "", 0, 2): "a[0]+2", ("a", "", -3, -4): "a[-3]-4", ("a", "n", 0, 0): "a[n]", ("all", "all", 1, 1): "all[all+1]+1"}
STRANGE = "#"
SIGNS = " abfilnow(){}[]|:;,=<>-+0123&\n" + STRANGE


def atom(kind, op, one, other):
    return (kind, op, one, other)


class WriteTest(unittest.TestCase):
    """Texts of each form, which are read back."""

    def both(self, value, text, write, read):
        self.assertEqual(text, write(value))
        self.assertEqual(value, read(text))

    def test_of_the_document(self):
        self.both(SET, SET_TEXT, write_function, read_function)
        self.assertEqual(("not", ("val", "<=", ("a", "i", 1, -2), ("", 7))), read_claim("not(a[i+1]-2 <= 7)"))
        self.both((("move", "i", ("n", -1)), ("if", ("val", "==", ("x", 0), ("", 0)), (("lend", "r", "a"),), ())),
                  "i := n-1; if x == 0 { lend r = a } else { }", write_rows, read_rows)
        self.both((("call", "f", ("a", "r"), (("i", 1),), ()),), "call f(a, r | i+1 | -)", write_rows, read_rows)
        with self.assertRaises(ParseError):
            read_claim("[i < 07]")

    def test_terms_and_atoms(self):
        for op in ("<=", "<", "=="):
            for one, told in TERMS.items():
                for other, behind in TERMS.items():
                    self.both(("pos", op, one, other), f"[{told} {op} {behind}]", write_claim, read_claim)
            amounts = {**TERMS, **CELLS}
            for one, told in amounts.items():
                for other, behind in amounts.items():
                    self.both(("val", op, one, other), f"{told} {op} {behind}", write_claim, read_claim)

    def test_great_numbers(self):
        for number in (SIXTY, -SIXTY, 10 ** 59):
            self.both(("val", "<", ("a", "i", number, -number), ("x", number)), write_claim(("val", "<", ("a", "i", number, -number), ("x", number))), write_claim, read_claim)
            self.assertEqual(("pos", "<", ("", number), ("i", 0)), read_claim(f"[{number} < i]"))

    def test_claims(self):
        less, more = ("pos", "<", ("i", 0), ("j", 0)), ("val", "==", ("a", "i", 0, 0), ("", -1))
        for claim, text in ((("not", less), "not([i < j])"), (("and", (less, more)), "and([i < j], a[i] == -1)"), (("or", ()), "or()"), (("and", ()), "and()"),
                            (("or", (more,)), "or(a[i] == -1)"), (("not", ("not", ("or", ()))), "not(not(or()))"),
                            (("all", ("k",), less, more), "all k ([i < j] -> a[i] == -1)"), (("all", ("k", "j"), ("not", more), ("and", ())), "all k, j (not(a[i] == -1) -> and())"),
                            (("all", ("k", "k"), more, less), "all k, k (a[i] == -1 -> [i < j])"), (("all", ("all", "not"), less, less), "all all, not ([i < j] -> [i < j])"),
                            (("not", ("all", ("k",), less, ("or", (less,)))), "not(all k ([i < j] -> or([i < j])))")):
            self.both(claim, text, write_claim, read_claim)

    def test_rows(self):
        up = ("pos", "<", ("i", 0), ("n", 0))
        every = ("all", ("k",), up, up)
        for rows, text in (((), ""), ((("move", "i", ("j", 1)),), "i := j+1"), ((("keep", "x", ("a", "i", 0, 0)),), "x = a[i]"), ((("keep", "x", ("", -3)),), "x = -3"),
                           ((("write", "a", "i", 0, ("x", 0)),), "a[i] = x"), ((("write", "a", "", -1, ("a", "", 2, 2)),), "a[-1] = a[2]+2"),
                           ((("lend", "r", "x"),), "lend r = x"), ((("lend", "r", "r"),), "lend r = r"), ((("call", "f", (), (), ()),), "call f(- | - | -)"),
                           ((("call", "f", ("a", "b"), (("i", 1),), (("x", 0), ("", 3))),), "call f(a, b | i+1 | x, 3)"),
                           ((("call", "f", (), (("", -1), ("", 0)), (("", -1), ("a", "i", 0, -1))),), "call f(- | -1, 0 | -1, a[i]-1)"),
                           ((("if", up, (), ()),), "if [i < n] { } else { }"), ((("while", up, ()),), "while [i < n] { }"),
                           ((("while", every, (("move", "i", ("i", 1)), ("while", FALSE, ()))), ("move", "i", ("", 0))),
                            "while all k ([i < n] -> [i < n]) { i := i+1; while or() { } }; i := 0"),
                           ((("if", TRUE, (("move", "i", ("", 0)),), (("keep", "x", ("", 0)), ("lend", "r", "a"))),), "if and() { i := 0 } else { x = 0; lend r = a }")):
            self.both(rows, text, write_rows, read_rows)
        many = (("move", "i", ("", 0)),) * 200
        self.both(many, "; ".join(["i := 0"] * 200), write_rows, read_rows)
        # A call can hand over any number of arrays, positions and values, as far as its text goes.
        self.both((("call", "f", ("a",) * 9, (("", 1),) * 9, (("x", 0),) * 9),),
                  f"call f({', '.join('a' * 9)} | {', '.join('1' * 9)} | {', '.join('x' * 9)})", write_rows, read_rows)

    def test_names_that_are_words(self):
        for word in WORDS:
            for rows, text in (((("move", word, (word, 1)),), f"{word} := {word}+1"), ((("keep", word, (word, 0)),), f"{word} = {word}"),
                               ((("write", word, word, -1, (word, word, 0, 0)),), f"{word}[{word}-1] = {word}[{word}]"), ((("lend", word, word),), f"lend {word} = {word}"),
                               ((("call", word, (word,), ((word, 0),), ((word, 0),)),), f"call {word}({word} | {word} | {word})"),
                               ((("if", ("val", "<", (word, 0), (word, word, 0, 0)), (), ()),), f"if {word} < {word}[{word}] {{ }} else {{ }}"),
                               ((("while", ("pos", "==", (word, 0), (word, 2)), (("move", word, ("", 0)),)),), f"while [{word} == {word}+2] {{ {word} := 0 }}")):
                self.both(rows, text, write_rows, read_rows)
            claim = ("not", ("and", (("val", "<=", (word, 1), (word, 0)), ("all", (word,), ("val", "<", (word, 0), ("", 0)), ("pos", "<", (word, 0), (word, 0))))))
            self.both(claim, f"not(and({word}+1 <= {word}, all {word} ({word} < 0 -> [{word} < {word}])))", write_claim, read_claim)

    def test_functions(self):
        for function in (FILL, TWICE, TWO, OUTER, LENT["f"], SET, WORDY, Function("f"), FILL.called_as("was")):
            text = write_function(function)
            self.assertEqual(function, read_function(text))
            self.assertEqual(text, write_function(read_function(text)))
            self.assertEqual((function,), read_functions(text))
        self.assertEqual("f(- | - | -) with (- | - | -) before (-) after (-) notes () { }", write_function(Function("f")))
        text = ("fill(full a:n was o, look b:n | i | x) with (look r:n | k | -) before ([i < n] & x == 0) after (-) "
                "notes (and() & or(); -) { while and() { while or() { } } }")
        function = read_function(text)
        self.assertEqual(text, write_function(function))
        self.assertEqual(((TRUE, FALSE), ()), function.notes)
        one = Function("f", rows=(("while", TRUE, ()),), notes=((),))
        self.both(one, "f(- | - | -) with (- | - | -) before (-) after (-) notes (-) { while and() { } }", write_function, read_function)

    def test_several_functions(self):
        functions = (TWICE, FILL, SET, FILL)
        text = write_functions(functions)
        self.assertEqual("\n".join(write_function(function) for function in functions), text)
        self.assertEqual(functions, read_functions(text))
        self.assertEqual(SET_TEXT, write_functions((SET,)))

    def test_situations(self):
        for situation, text in ((SHOWN, "a=4 0 7 | i=1 j=2 | x=5"), (SHOWN.with_number("i", -SIXTY), f"a=4 0 7 | i=-{SIXTY} j=2 | x=5"),
                                (Situation(WIDE, {"a": (), "b": (), "c": (-1,)}, {"i": 0, "j": -3}, {"x": 1, "y": 0}), "a=- b=- c=-1 | i=0 j=-3 | x=1 y=0"),
                                (Situation(Frame((), (), ()), {}, {}, {}), "- | - | -"), (Situation(Frame((), ("i",), ()), {}, {"i": 3}, {}), "- | i=3 | -"),
                                (Situation(WIDE, {"a": (1, 2), "b": (-3, 0), "c": ()}, {"i": 0, "j": 0}, {"x": 0, "y": 0}), "a=1 2 b=-3 0 c=- | i=0 j=0 | x=0 y=0")):
            self.assertEqual(str(situation), write_situation(situation))
            self.assertEqual(text, write_situation(situation))
            self.assertEqual(situation, read_situation(situation.frame, text))

    def test_situations_with_longer_integers(self):
        # These are written, but not read.
        begin = Situation(SET.start_frame, {"a": (1,)}, {"p": 0}, {"x": SIXTY})
        longer = outcome(Program((SET.with_rows((("write", "a", "p", 0, ("x", 1)),), ()),)), "set", begin)[1]
        self.assertEqual(f"a={LONG} o=1 | p=0 | x={SIXTY}", write_situation(longer))
        with self.assertRaises(ParseError) as caught:
            read_situation(longer.frame, write_situation(longer))
        self.assertEqual(62, caught.exception.index)
        self.assertEqual(begin, read_situation(begin.frame, write_situation(begin)))

    def test_random_claims(self):
        rand = random.Random(5)
        texts = {}
        for _ in range(1500):
            claim = samples.Maker(WIDE, rand, rand.choice((1, 3, 99999))).claim(4)
            text = write_claim(claim)
            self.assertEqual(claim, read_claim(text))
            # Unlike values have unlike texts.
            self.assertEqual(claim, texts.setdefault(text, claim))

    def test_random_functions(self):
        for seed in range(150):
            made = Maker(seed).program(3, 16)
            for function in made.functions:
                text = write_function(function)
                self.assertEqual(function, read_function(text))
                self.assertEqual(function.rows, read_rows(write_rows(function.rows)))
            self.assertEqual(made.functions, read_functions(write_functions(made.functions)))

    def test_random_situations(self):
        rand = random.Random(6)
        for _ in range(300):
            situation = samples.Maker(WIDE, rand, 200).situation(4)
            self.assertEqual(situation, read_situation(WIDE, write_situation(situation)))


class FormTest(unittest.TestCase):
    """Which tuples have the form of claims and rows."""

    CLAIM = ("all", ("k", "j"), ("and", (("pos", "<=", ("i", 1), ("", 0)), ("not", ("val", "<", ("a", "i", 1, 0), ("x", 1))))), ("val", "==", ("", 1), ("y", 0)))
    ROWS = (("move", "i", ("j", 1)), ("keep", "x", ("a", "i", 0, 1)), ("write", "a", "i", 1, ("x", 0)), ("lend", "r", "s"), ("call", "f", ("a",), (("i", 1),), (("x", 0),)),
            ("if", CLAIM, (("move", "i", ("", 0)),), (("while", TRUE, ()),)))

    def test_claims(self):
        self.assertEqual(self.CLAIM, read_claim(write_claim(self.CLAIM)))
        less = ("pos", "<", ("i", 0), ("j", 0))
        wrong = (("pos", "<", ("i", 0)), ("pos", ">", ("i", 0), ("j", 0)), ("pos", "<", ("I", 0), ("j", 0)), ("pos", "<", ("abcdefghi", 0), ("j", 0)), ("pos", "<", ("i", LONG), ("j", 0)),
                 ("pos", "<", ("a", "i", 0, 0), ("j", 0)), ("val", "<", ("a", "i", 0), ("x", 0)), ("val", "<", ("", "i", 0, 0), ("x", 0)), ("val", "<", ("a", "", 0, -LONG), ("x", 0)),
                 ("val", "<", ("*", 0), ("x", 0)), ("not",), ("not", less, less), ("and", less), ("and", [less]), ("and", (less,), ()), ("or", (None,)), ("all", (), less, less),
                 ("all", ("k", "j", "i"), less, less), ("all", ("",), less, less), ("all", ["k"], less, less), ("all", "k", less, less), ("all", ("k",), less),
                 ("all", ("k",), ("all", ("j",), less, less), less), ("all", ("k",), less, ("not", ("all", ("j",), less, less))), ("some", ("k",), less, less), ("val", None, ("x", 0), ("x", 0)))
        for value in (*wrong, *JUNK, deep_junk(), *with_trues(self.CLAIM), *with_lists(self.CLAIM), [self.CLAIM], self.ROWS):
            with self.assertRaises(InvalidClaim):
                write_claim(value)
            if not isinstance(value, list):
                with self.assertRaises(InvalidFunction):
                    write_rows((("while", value, ()),))

    def test_rows(self):
        self.assertEqual(self.ROWS, read_rows(write_rows(self.ROWS)))
        row = ("move", "i", ("", 0))
        wrong = ((row, None), [row], row, ((),), (("move", "i"),), (("move", "", ("", 0)),), (("move", "i", ("a", "i", 0, 0)),), (("keep", "x", ("a", "i", 0)),), (("write", "a", "i", 0),),
                 (("write", "a", "i", "0", ("x", 0)),), (("write", "", "i", 0, ("x", 0)),), (("write", "a", "I", 0, ("x", 0)),), (("lend", "r"),), (("lend", "r", ""),), (("lend", "r", ("a", 0)),),
                 (("call", "f", ("a",), ()),), (("call", "f", ("",), (), ()),), (("call", "f", "a", (), ()),), (("call", "f", (), (("a", "i", 0, 0),), ()),), (("call", "f", (), (), ("x",)),),
                 (("call", "F", (), (), ()),), (("if", TRUE, ()),), (("if", TRUE, (), (), ()),), (("while", TRUE),), (("while", TRUE, row),), (("while", TRUE, None),), (("loop", TRUE, ()),))
        for value in (*wrong, *[value for value in JUNK if value != ()], deep_junk(), *with_trues(self.ROWS), *with_lists(self.ROWS)):
            with self.assertRaises(InvalidFunction):
                write_rows(value)

    def test_functions(self):
        for value in (*JUNK, deep_junk(), BOTH, (FILL,), [FILL]):
            with self.assertRaises(InvalidFunction):
                write_function(value)
        for value in (*JUNK, deep_junk(), BOTH, FILL, [FILL], (FILL, None), (BOTH,), {"fill": FILL}):
            with self.assertRaises(InvalidFunction):
                write_functions(value)

    def test_situations(self):
        for value in (*JUNK, deep_junk(), BOTH):
            if value is not SHOWN:
                with self.assertRaises(InvalidSituation):
                    write_situation(value)
            if not isinstance(value, Frame):
                with self.assertRaises(InvalidFrame):
                    read_situation(value, None)

    def test_twelve_and_thirteen_deep(self):
        for claim in (nested(12), ("all", ("k",), nested(11), ("and", ())), ("and", (("or", ()), nested(11)))):
            self.assertEqual(claim, read_claim(write_claim(claim)))
            self.assertEqual((("while", claim, ()),), read_rows(write_rows((("while", claim, ()),))))
            with self.assertRaises(InvalidClaim):
                write_claim(("not", claim))
            with self.assertRaises(InvalidFunction):
                write_rows((("if", ("or", (claim,)), (), ()),))
        with self.assertRaises(InvalidClaim):
            write_claim(("all", ("k",), nested(12), ("and", ())))

    def test_four_and_five_deep(self):
        rows = (("move", "i", ("", 0)),)
        for depth in range(1, 7):
            rows = (("while", TRUE, rows),) if depth % 2 else (("if", TRUE, (), rows),)
            if depth <= 4:
                self.assertEqual(rows, read_rows(write_rows(rows)))
            else:
                with self.assertRaises(InvalidFunction):
                    write_rows(rows)
        inner = (("while", TRUE, ()),)
        for _ in range(4):
            inner = (("while", TRUE, inner),)
        self.assertEqual(inner, read_rows(write_rows(inner)))
        with self.assertRaises(InvalidFunction):
            write_rows((("while", TRUE, inner),))


class WrongTest(unittest.TestCase):
    """Texts that are wrong, and the index that is told."""

    def index(self, read, text):
        with self.assertRaises(ParseError) as caught:
            read(text)
        return caught.exception.index

    def test_no_strings(self):
        for value in (*[value for value in JUNK if not isinstance(value, str)], deep_junk(), BOTH, b"and()", ["and()"]):
            for read in (read_claim, read_rows, read_function, read_functions, lambda text: read_situation(WIDE, text)):
                self.assertIsNone(self.index(read, value))

    def test_of_numbers(self):
        for text, index in (("[i < 07]", 6), ("[i < 00]", 6), ("[i < -0]", 6), ("[i < -]", 6), ("[i+0 < j]", 3), ("[i-0 < j]", 3), ("[i+ < j]", 3), ("[i++1 < j]", 3), ("[i+-1 < j]", 3),
                            ("[+1 < j]", 1), ("[1+1 < j]", 2), ("[--1 < j]", 2), ("a[0]+0 < 1", 5), ("a[0]-0 < 1", 5), ("a[0]+01 < 1", 5), ("x+1+1 < 1", 3), ("x+1[0] < 1", 3),
                            ("[" + "1" * 60 + " < i", 65), ("[" + "1" * 61 + " < i]", 61), ("[-" + "1" * 61 + " < i]", 62), ("x+" + "9" * 61 + " < x", 62), ("x-" + "9" * 60 + "0 < x", 62)):
            self.assertEqual(index, self.index(read_claim, text), text)

    def test_of_names(self):
        for text, index in (("abcdefghi < 1", 8), ("[abcdefghi < 1]", 9), ("A < 1", 0), ("aB < 1", 1), ("a1 < 1", 1), ("a_b < 1", 1), ("a [0] < 1", 2), ("notabcdef(x < 1)", 8),
                            ("nor(x < 1)", 3), ("a[b[0]] < 1", 3), ("[a[0] < 1]", 2), ("a[0][0] < 1", 4), ("a[] < 1", 2)):
            self.assertEqual(index, self.index(read_claim, text), text)

    def test_of_signs_and_brackets(self):
        for text, index in (("", 0), ("x", 1), ("x ", 2), ("x <", 3), ("x <=", 4), ("x < ", 4), ("x<1", 1), ("x  < 1", 2), ("x > 1", 2), ("x = 1", 3), ("x === 1", 4), ("x =< 1", 3), ("x <<", 3),
                            ("x < 1 ", 5), ("[i < j", 6), ("i < j]", 5), ("(x < 1)", 0), ("[i < j]]", 7), ("not x < 1", 4), ("not (x < 1)", 4), ("not()", 4), ("not(x < 1", 9), ("not(x < 1, x < 1)", 9),
                            ("and(x < 1,x < 1)", 10), ("and(x < 1 , x < 1)", 9), ("and(, x < 1)", 4), ("and( )", 4), ("or(x < 1, )", 10), ("or", 2), ("or(", 3), ("and(x < 1)x", 10), ("\n", 0),
                            ("all", 3), ("all ", 4), ("all k", 5), ("all k(", 5), ("all k (", 7), ("all k, (x < 1 -> x < 1)", 7), ("all k,j (x < 1 -> x < 1)", 6), ("all k, j, l (x < 1 -> x < 1)", 8),
                            ("all k (x < 1)", 12), ("all k (x < 1 > x < 1)", 13), ("all k (x < 1 -> x < 1", 21), ("all k (all j (x < 1 -> x < 1) -> x < 1)", 11), ("all k (x < 1 -> not(all j (x < 1 -> x < 1)))", 24),
                            ("all k (all < 1 -> all[0] < 1", 28), ("all 5", 4), ("all+1 k", 6)):
            self.assertEqual(index, self.index(read_claim, text), text)

    def test_of_depth(self):
        # Twelve deep a not is wrong at its bracket, an all behind its blank, and the first part of an and or or at its first character.
        ahead = "not(" * 11
        self.assertEqual(44 + 3, self.index(read_claim, ahead + "not(x < 1)" + ")" * 11))
        self.assertEqual(44 + 4, self.index(read_claim, ahead + "all k (x < 1 -> x < 1)" + ")" * 11))
        for word in ("and(", "or("):
            self.assertEqual(44 + len(word), self.index(read_claim, ahead + word + "x < 1)" + ")" * 11))
            self.assertTrue(read_claim(ahead + word + ")" + ")" * 11))
        self.assertTrue(read_claim(ahead + "all < 1" + ")" * 11))
        self.assertTrue(read_claim(ahead + "not[0] < 1" + ")" * 11))
        self.assertTrue(read_claim("not(" * 10 + "all k (x < 1 -> x < 1)" + ")" * 10))
        self.assertEqual(40 + 7 + 3, self.index(read_claim, "not(" * 10 + "all k (not(x < 1) -> x < 1)" + ")" * 10))

    def test_of_rows(self):
        for text, index in ((" ", 0), ("i", 1), ("i ", 2), ("i :", 3), ("i : ", 3), ("i :=", 4), ("i := ", 5), ("i := j;", 7), ("i := j; ", 8), ("i := j;i := j", 7), ("i := a[0]", 6), ("i == j", 3), ("i=j", 1),
                            ("a[0]+1 = x", 4), ("a[0] := x", 5), ("a[0] == x", 6), ("a [0] = x", 2), ("lend r := x", 7), ("lend r = 5", 9), ("lend 5", 5), ("lend r x", 7), ("lend = x[i", 10), ("lend r = a[i]", 10),
                            ("call", 4), ("call f", 6), ("call f()", 7), ("call f(a,b | - | -)", 9), ("call f(a | - -)", 13), ("call f(a|", 8), ("call f(- | -, 1 | -)", 12), ("call f(- | - | -", 16),
                            ("call f(-1 | - | -)", 8), ("call f(- | -0 | -)", 12), ("call f(- | a[0] | -)", 12), ("call f(- | - | -)x", 17), ("if", 2), ("if and()", 8), ("if and(){ } else { }", 8),
                            ("if and() { }", 12), ("if and() { } else", 17), ("if and() { } els { }", 16), ("if and() {} else { }", 10), ("if and() {  } else { }", 11), ("if and() { i := 0} else { }", 17),
                            ("if and() { i := 0 ; } else { }", 18), ("while and() { } else { }", 15), ("while { }", 6), ("while and() { };", 16), ("; i := 0", 0), ("{ }", 0), ("else := 5; else { }", 16)):
            self.assertEqual(index, self.index(read_rows, text), text)
        deep = "while and() { " * 4
        self.assertTrue(read_rows(deep + "while and() { }" + " }" * 4))
        self.assertEqual(14 * 5, self.index(read_rows, deep + "while and() { i := 0 }" + " }" * 4))

    def test_of_functions(self):
        for text, index in (("", 0), ("set()", 4), ("f(- | - | -)with", 12), ("f(full a:n | - | -)", 11), ("f(look a:n was o | - | -)", 11), ("f(fool a:n | - | -)", 3), ("f(a:n | - | -)", 2),
                            ("f(- | -, - | -)", 7), ("f(-, full a:n was o | - | -)", 3), ("f(- | - | -) with (full r:n was o | - | -)", 28), (SET_TEXT + " ", len(SET_TEXT)), (SET_TEXT + "\n", len(SET_TEXT)),
                            (SET_TEXT.replace("before (", "before ()"), SET_TEXT.index("before (") + 8), (SET_TEXT.replace("notes ()", "notes (-;-)"), SET_TEXT.index("notes ()") + 9),
                            (SET_TEXT.replace(" & ", " &"), SET_TEXT.index(" & ") + 2), (SET_TEXT.replace(" & ", " | "), SET_TEXT.index(" & ") + 1)):
            self.assertEqual(index, self.index(read_function, text), text)
        for text, index in ((SET_TEXT + "\n", len(SET_TEXT) + 1), (SET_TEXT + "\n\n" + SET_TEXT, len(SET_TEXT) + 1), (SET_TEXT + "; " + SET_TEXT, len(SET_TEXT)), ("\n" + SET_TEXT, 0), ("", 0)):
            self.assertEqual(index, self.index(read_functions, text), text)

    def test_of_situations(self):
        frame = Frame((("a", "n"), ("b", "n")), ("i",), ("x",))
        right = "a=1 2 b=3 4 | i=5 | x=6"
        self.assertEqual((1, 2), read_situation(frame, right).rows["a"])
        for text, index in (("", 0), ("b=1", 0), ("a=", 2), ("a= 1", 2), ("a=1  2", 4), ("a=1 2", 5), ("a=1 c=2", 4), ("a=01 b=1", 3), ("a=-0 b=1", 3), ("a=- 1 b=1", 4), ("a=1 - b=1", 5), ("a=1,2", 3),
                            ("a=1 2 b=3 4 |", 13), ("a=1 2 b=3 4| i=5", 11), ("a=1 2 b=3 4 | x=5", 14), ("a=1 2 b=3 4 | i=5 j=6", 18), ("a=1 2 b=3 4 | i=- | x=6", 17), (right + " ", len(right)), (right[:-1], len(right) - 1),
                            ("a=1 2 b=3 4 | i=5 | -", 20), ("- | i=5 | x=6", 0), ("a=" + "1" * 61 + " b=1", 62)):
            self.assertEqual(index, self.index(lambda told: read_situation(frame, told), text), text)
        with self.assertRaises(InvalidSituation):
            read_situation(frame, "a=1 2 b=3 | i=5 | x=6")
        # An error of the text comes first.
        self.assertEqual(20, self.index(lambda told: read_situation(frame, told), "a=1 2 b=3 | i=5 | x=") )

    def test_texts_that_no_function_has(self):
        plain = "f(- | - | -) with (- | - | -) before (-) after (-) notes () { }"
        wide = "f(full a:n was o, look b:n | i | x) with (full r:n | j | y) before (-) after (-) notes () { }"
        self.assertIsInstance(read_function(wide), Function)
        texts = [
            plain.replace("notes ()", "notes (-)"), plain.replace("{ }", "{ while and() { } }"), plain.replace("f(-", "f(full a:n was a"), plain.replace("f(- | -", "f(- | i, i"),
            plain.replace("f(- | -", "f(- | i, j, k, l"), plain.replace("before (-)", "before ([i < 0])"), plain.replace("before (-)", "before (" + " & ".join(["and()"] * 5) + ")"),
            plain.replace("{ }", "{ i := 0 }"), plain.replace("with (-", "with (full r:n"), wide.replace("{ }", "{ i := 0 }"), wide.replace("{ }", "{ b[0] = 0 }"), wide.replace("{ }", "{ lend r = b }"),
            wide.replace("{ }", "{ lend r = r }"), wide.replace("{ }", "{ if all k ([k <= i] -> x < 0) { } else { } }"), wide.replace("before (-)", "before ([r < 0])"),
            wide.replace("before (-)", "before (a[k] == x)"), wide.replace("before (-)", f"before ([i < {10 ** 40}])"), wide.replace("{ }", "{ " + "; ".join(["j := 0"] * 25) + " }"),
            wide.replace("{ }", "{ call g(a, a, a, a, a | - | -) }"), wide.replace("before (-)", "before (all k, k ([k <= i] -> x < 0))"), wide.replace("before (-)", "before (all k (x < 0 -> x < 0))"),
            wide.replace("{ }", "{ if " + "not(" * 11 + "and()" + ")" * 11 + " { } else { } }")]
        for text in texts:
            for read in (read_function, read_functions):
                with self.assertRaises(InvalidFunction):
                    read(text)
            # An error of the text comes first.
            self.assertEqual(len(text) + 1, self.index(read_functions, text + "\n"))
        with self.assertRaises(InvalidFunction):
            read_functions(plain + "\n" + texts[0])
        self.assertIsInstance(read_function(wide.replace("before (-)", f"before ([i < {10 ** 40 - 1}])")), Function)


class GrammarTest(unittest.TestCase):
    """Texts that are cut, or have another character somewhere, beside a plain grammar."""

    def check(self, start, read, text, errors=()):
        """All cuts, a strange character at each place, and others at some places."""
        chart = Chart(start)
        self.assertIsNone(chart.read(text), text)
        self.assertTrue(chart.is_whole(), text)
        rand = random.Random(text)
        for at in range(len(text) + 1):
            ahead = chart.first(at)
            self.same(read, text[:at], None if ahead.is_whole() else at, errors)
            self.same(read, text[:at] + STRANGE + text[at + 1:], at, errors)
            for sign in rand.sample(SIGNS, 3):
                self.same(read, text[:at] + sign + text[at + 1:], wrong_at(ahead, sign + text[at + 1:]), errors)
                self.same(read, text[:at] + sign + text[at:], wrong_at(ahead, sign + text[at:]), errors)
            self.same(read, text[:at] + text[at + 1:], wrong_at(ahead, text[at + 1:]), errors)

    def same(self, read, text, index, errors):
        try:
            read(text)
            found = None
        except ParseError as error:
            found = error.index
        except errors:
            found = None
        self.assertEqual(index, found, repr(text))

    def test_claims(self):
        rand = random.Random(1)
        texts = ["and(not(x < 0), or(), all k, j ([k <= i+1] -> a[k-1]+2 == -3))", "not(" * 11 + "all == and[-10]" + ")" * 11, "all all (or(not[0] < 1, or()) -> not(and(and == or)))",
                 "[" + "1" * 60 + " <= abcdefgh-12]"]
        texts += [write_claim(samples.Maker(WIDE, rand, 12).claim(3)) for _ in range(12)]
        for text in texts:
            if len(text) < 200:
                self.check(("claim", 12, True), read_claim, text)

    def test_rows(self):
        texts = ["i := j+1; x = a[i]-1; a[0] = x; lend r = s; call f(a, b | -1, i | -2, a[i])", "if x < 0 { while [i < n] { if and() { } else { lend = 3 } } } else { call f(- | - | -) }",
                 "if := if; while = while; if[if] = if; lend[0] = 1; call := 0; lend = lend; call = call[call]", "while and() { " * 4 + "while and() { }" + " }" * 4]
        for text in texts:
            self.check(("all_rows",), read_rows, text)

    def test_functions(self):
        for function in (Function("f"), SET, WORDY):
            self.check(("function",), read_function, write_function(function), InvalidFunction)
        short = write_functions((Function("f"), Function("g", rows=(("while", TRUE, ()),), notes=((TRUE, FALSE),))))
        self.check(("functions",), read_functions, short, InvalidFunction)

    def test_situations(self):
        frame = Frame((("a", "n"), ("ab", "m")), ("i", "j"), ("x",))
        start = ("situation", ("a", "ab"), ("i", "j"), ("x",))
        for text in ("a=1 -20 3 ab=- | i=0 j=-5 | x=12", "a=- ab=0 | i=10 j=1 | x=-1"):
            self.check(start, lambda told: read_situation(frame, told), text, InvalidSituation)
        self.check(("situation", (), (), ()), lambda told: read_situation(Frame((), (), ()), told), "- | - | -")


if __name__ == "__main__":
    unittest.main()
