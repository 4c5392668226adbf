"""Functions: what they are made of, what is wrong, and what is made of them."""

import unittest

from lentcells.base.frames import Frame
from lentcells.code.functions import MAX_CLAIMS, MAX_INSIDE, MAX_LOOPS, MAX_ROWS, Function
from lentcells.errors import InvalidFunction, InvalidName, InvalidNumber, InvalidOperation, UnknownName
from lentcells.logic.claims import renamed_claim
from making import ALL, DONE, FILL, SPAN, TRUE, TWICE, UP, Maker, plain_rows
from samples import JUNK, deep_junk, nested, with_lists, with_trues

FORTY = 10 ** 40 - 1
LESS = ("pos", "<", ("i", 0), ("j", 0))
# All that a heading can have.
WHOLE = {
    "arrays": (("full", "a", "n", "wa"), ("look", "b", "n"), ("full", "c", "m", "wc"), ("look", "d", "m")),
    "positions": ("i", "j", "h"), "values": ("x", "y", "z"),
    "loans": (("full", "r", "n"), ("look", "s", "n"), ("full", "t", "m")),
    "places": ("o", "p", "q"), "numbers": ("u", "v", "w"),
}
# One right row of each kind, without rows in it.
RIGHT = (
    ("move", "o", ("i", 3)), ("move", "p", ("n", -1)), ("move", "q", ("", 7)), ("move", "o", ("o", 1)),
    ("keep", "u", ("x", 1)), ("keep", "v", ("", -4)), ("keep", "w", ("b", "p", -1, 2)), ("keep", "u", ("s", "n", -1, 0)),
    ("write", "a", "i", 0, ("x", 0)), ("write", "r", "", 5, ("r", "", 6, 1)), ("write", "c", "n", -1, ("d", "q", 0, 0)),
    ("lend", "r", "a"), ("lend", "s", "b"), ("lend", "s", "r"), ("lend", "t", "c"), ("lend", "s", "a"),
    ("call", "g", (), (), ()), ("call", "f", ("a", "b", "a", "t"), (("i", 0), ("m", 1), ("", 2)),
                               (("x", 0), ("a", "i", 0, 0), ("", 3))), ("call", "a", ("s",), (), ()),
)


def whole(**more):
    """The function with the whole heading and other parts."""
    return Function("f", **{**WHOLE, **more})


def loops(many, inside=()):
    """So many whiles, one behind the other."""
    return (("while", LESS, inside),) * many


def deep(word, depth, last=(("move", "o", ("", 0)),)):
    """Rows that stand so deep in others."""
    rows = last
    for _ in range(depth):
        rows = ((word, LESS, rows) if word == "while" else (word, LESS, (), rows),)
    return rows


class HeadingTest(unittest.TestCase):
    """Parameters and locals."""

    def wrong(self, **passed):
        with self.assertRaises(InvalidFunction, msg=str(passed)):
            Function("f", **passed)

    def test_constants(self):
        self.assertEqual((24, 4, 4, 4), (MAX_ROWS, MAX_LOOPS, MAX_INSIDE, MAX_CLAIMS))

    def test_whole_and_nothing(self):
        made = whole()
        self.assertEqual(Frame((("a", "n"), ("b", "n"), ("c", "m"), ("d", "m"), ("r", "n"), ("s", "n"), ("t", "m"),
                                ("wa", "n"), ("wc", "m")), ("i", "j", "h", "o", "p", "q"),
                               ("x", "y", "z", "u", "v", "w")), made.frame)
        self.assertEqual(Frame(made.frame.arrays[:4], ("i", "j", "h"), ("x", "y", "z")), made.start_frame)
        self.assertEqual(Frame(made.frame.arrays[:4] + made.frame.arrays[7:], ("i", "j", "h"), ("x", "y", "z")),
                         made.end_frame)
        told = (made.arrays, made.positions, made.amounts, made.loans, made.places, made.numbers)
        self.assertEqual(tuple(WHOLE[kind] for kind in ("arrays", "positions", "values", "loans", "places", "numbers")),
                         told)
        self.assertEqual(["full", "look", "full", "look", "full", "look", "full"],
                         [made.way_of(word) for word in ("a", "b", "c", "d", "r", "s", "t")])
        none = Function("f")
        self.assertEqual([()] * 11, [
            none.arrays, none.positions, none.amounts, none.loans, none.places, none.numbers, none.rows, none.notes,
            none.before, none.after, none.conditions])
        self.assertEqual((0, (), "f", "f: 0 rows, 0 loops"), (len(none), none.callees, none.called, str(none)))
        self.assertEqual(Frame((), (), ()), none.frame)

    def test_limits(self):
        arrays = tuple(("full", word, "n", "w" + word) for word in "abcde")
        self.assertEqual(4, len(Function("f", arrays=arrays[:4]).arrays))
        self.wrong(arrays=arrays)
        for kind in ("positions", "values", "places", "numbers"):
            self.assertEqual(3, len(Function("f", **{kind: ("i", "j", "h")}).frame))
            self.wrong(**{kind: ("i", "j", "h", "l")})
        loans = tuple(("look", word, "n") for word in "rstu")
        self.assertEqual(loans[:3], Function("f", arrays=arrays[:1], loans=loans[:3]).loans)
        self.wrong(arrays=arrays[:1], loans=loans)

    def test_lengths_of_loans(self):
        self.wrong(arrays=(("look", "a", "n"),), loans=(("look", "r", "m"),))
        self.wrong(loans=(("look", "r", "m"),))
        self.wrong(arrays=(("look", "a", "n"),), positions=("m",), loans=(("look", "r", "m"),))

    def test_names_that_are_used_twice(self):
        words = ["a", "b", "c", "d", "n", "m", "wa", "wc", "r", "s", "t", *"ijhxyzopquvw"]
        for old in words:
            for new in words:
                if old < new and (old, new) not in (("m", "n"),):
                    self.wrong(**exchange(WHOLE, {old: new}))
        self.assertEqual("f", Function("f", positions=("f",)).called)

    def test_names_that_are_none(self):
        for word in ("", "A", "abcdefghi", "*1", None, 1, True, ("a",), ["a"]):
            for old in ("a", "wa", "n", "r", "i", "x", "o", "u"):
                self.wrong(**exchange(WHOLE, {old: word}))
            with self.assertRaises(InvalidName):
                Function(word)

    def test_kinds_of_values(self):
        for kind, right in WHOLE.items():
            for value in JUNK + (deep_junk(), list(right), right[0], right + (None,)):
                if value not in ((), ("all",), ("not",)):
                    self.wrong(**{**WHOLE, kind: value})
        for told in (("full", "a", "n"), ("look", "a", "n", "w"), ("Full", "a", "n", "w"), ["look", "a", "n"], (), ("look",),
                     ("full", "a", "n", "w", "v")):
            self.wrong(arrays=(told,))
        for told in (("full", "r", "n", "w"), ("look", "r"), ["look", "r", "n"], (True, "r", "n")):
            self.wrong(arrays=(("look", "a", "n"),), loans=(told,))

    def test_the_name_comes_first(self):
        with self.assertRaises(InvalidName):
            Function(None, arrays=None)


def exchange(passed, names):
    """What is passed with other words in its tuples, but for the ways."""
    def put(value, at=1):
        if isinstance(value, tuple):
            return tuple(put(part, at) for at, part in enumerate(value))
        return names.get(value, value) if isinstance(value, str) else value
    return {kind: put(value) for kind, value in passed.items()}


class RowsTest(unittest.TestCase):
    """Rows of each kind, right and wrong."""

    def right(self, row, **more):
        self.assertEqual((row,), whole(rows=(row,), **more).rows)

    def wrong(self, row, **more):
        with self.assertRaises(InvalidFunction, msg=str(row)):
            whole(rows=(row,), **more)

    def test_right_rows(self):
        for row in RIGHT:
            self.right(row)
        self.right(("if", LESS, (), ()))
        self.right(("if", TRUE, (RIGHT[0],), (RIGHT[4], RIGHT[8])))
        self.right(("while", ("not", ("val", "==", ("s", "o", 0, 0), ("u", 1))), ()), notes=((),))

    def test_wrong_moves_and_keeps(self):
        for word in ("i", "n", "a", "u", "x", "", "k", None, 0):
            self.wrong(("move", word, ("", 0)))
        for word in ("o", "x", "a", "r", "", "k", None, 0):
            self.wrong(("keep", word, ("", 0)))
        for term in (("x", 0), ("u", 0), ("a", "i", 0, 0), ("k", 0), ("i",), ("i", 0, 0), ["i", 0], ("i", True), "i", None):
            self.wrong(("move", "o", term))
        for term in (("i", 0), ("o", 0), ("n", 0), ("wa", "i", 0, 0), ("a", "x", 0, 0), ("a", "i", 0), ("i", "i", 0, 0),
                     ("n", "i", 0, 0), ("a", "i", 0, True), ("a", "i", False, 0), ("x", 0, 0), None):
            self.wrong(("keep", "u", term))

    def test_wrong_writes(self):
        for array in ("b", "d", "s", "wa", "wc", "n", "i", "x", "k", "", None, 1):
            self.wrong(("write", array, "i", 0, ("x", 0)))
        for name, shift in (("x", 0), ("u", 0), ("a", 0), ("k", 0), ("i", True), ("i", None), (None, 0), (("i", 0), 0)):
            self.wrong(("write", "a", name, shift, ("x", 0)))
        for term in (("i", 0), ("wa", "i", 0, 0), ("k", 0), None, ()):
            self.wrong(("write", "a", "i", 0, term))
        self.wrong(("write", "a", ("i", 0), ("x", 0)))

    def test_wrong_lends(self):
        for row in (("lend", "a", "b"), ("lend", "a", "r"), ("lend", "r", "r"), ("lend", "s", "s"), ("lend", "r", "c"),
                    ("lend", "t", "a"), ("lend", "r", "b"), ("lend", "r", "s"), ("lend", "t", "d"), ("lend", "r", "wa"),
                    ("lend", "wa", "a"), ("lend", "s", "wa"), ("lend", "r", "n"), ("lend", "k", "a"), ("lend", "r", None),
                    ("lend", "r"), ("lend", "r", "a", "a")):
            self.wrong(row)

    def test_wrong_calls(self):
        right = ("call", "g", ("a",), (("i", 0),), (("x", 0),))
        self.right(right)
        for at, values in ((1, ("", "G", None, 1, ("g",))), (2, (("wa",), ("n",), ("i",), ("k",), (None,), "a", ["a"], None)),
                           (3, ((("x", 0),), ("i",), (("i", True),), [("i", 0)], None, (("wa", "i", 0, 0),))),
                           (4, ((("i", 0),), ("x",), (("wa", "i", 0, 0),), [("x", 0)], None))):
            for value in values:
                self.wrong(right[:at] + (value,) + right[at + 1:])
        for at, term, most in ((2, "a", 4), (3, ("i", 0), 3), (4, ("x", 0), 3)):
            self.right(right[:at] + ((term,) * most,) + right[at + 1:])
            self.wrong(right[:at] + ((term,) * (most + 1),) + right[at + 1:])

    def test_conditions(self):
        eleven, twelve = nested(11), nested(12)
        for word in ("if", "while"):
            rows = ((), ()) if word == "if" else ((),)
            more = {} if word == "if" else {"notes": ((),)}
            self.right((word, eleven, *rows), **more)
            every = ("all", ("k",), TRUE, ("val", "<=", ("a", "k", 0, 0), ("x", 0)))
            for claim in (twelve, every, ("not", every), ("and", (every,)), ("val", "<", ("wa", "i", 0, 0), ("x", 0)),
                          ("pos", "<", ("k", 0), ("i", 0)), ("pos", ">", ("i", 0), ("j", 0)), None, (), ["and", ()], "and"):
                self.wrong((word, claim, *rows), **more)
            self.wrong((word, LESS), **more)
            self.wrong((word, LESS, *rows, ()), **more)
            self.wrong((word, LESS, *[list(part) for part in rows]), **more)
            self.wrong((word, LESS, *[None for _ in rows]), **more)

    def test_trues_and_lists(self):
        for row in RIGHT + (("if", LESS, (RIGHT[0],), (RIGHT[4],)),):
            for value in with_trues(row) + with_lists(row):
                self.wrong(value)
        for value in JUNK + (deep_junk(),):
            self.wrong(value)
            if value != ():
                with self.assertRaises(InvalidFunction):
                    whole(rows=value)

    def test_how_many_rows(self):
        row = RIGHT[0]
        self.assertEqual(24, len(whole(rows=(row,) * 24)))
        self.assertEqual(24, len(whole(rows=(("if", LESS, (row,) * 11, (row,) * 12),))))
        for rows in ((row,) * 25, (("if", LESS, (row,) * 12, (row,) * 12),), loops(1, (row,) * 24)):
            with self.assertRaises(InvalidFunction):
                whole(rows=rows, notes=((),) * (rows[0][0] == "while"))
        self.assertEqual(4, len(whole(rows=loops(4), notes=((),) * 4).conditions))
        with self.assertRaises(InvalidFunction):
            whole(rows=loops(5), notes=((),) * 5)
        with self.assertRaises(InvalidFunction):
            whole(rows=loops(3, loops(1)), notes=((),) * 6)

    def test_how_deep_rows_stand(self):
        for word in ("if", "while"):
            notes = {"if": (), "while": ((),) * 4}[word]
            self.assertEqual(5, len(whole(rows=deep(word, 4), notes=notes)))
        self.assertEqual(5, len(whole(rows=deep("if", 5, ()))))
        with self.assertRaises(InvalidFunction):
            whole(rows=deep("if", 5))
        with self.assertRaises(InvalidFunction):
            whole(rows=deep("if", 6, ()))
        with self.assertRaises(InvalidFunction):
            whole(rows=deep("while", 4, deep("if", 1)), notes=((),) * 4)

    def test_forty_digits(self):
        for sign in (1, -1):
            for number, is_right in ((sign * FORTY, True), (sign * (FORTY + 1), False)):
                claim = ("pos", "<=", ("i", 0), ("j", number))
                guard = ("pos", "<=", ("k", 0), ("i", number))
                every = ("all", ("k",), guard, ("val", "<=", ("a", "k", 0, 0), ("a", "i", 0, number)))
                for passed in ({"rows": (("move", "o", ("i", number)),)}, {"rows": (("keep", "u", ("a", "i", number, 0)),)},
                               {"rows": (("write", "a", "i", number, ("x", 0)),)}, {"rows": (("write", "a", "i", 0, ("x", number)),)},
                               {"rows": (("call", "g", (), (("i", number),), ()),)}, {"rows": (("if", claim, (), ()),)},
                               {"rows": (("call", "g", (), (), (("x", number),)),)}, {"before": (claim,)}, {"after": (every,)},
                               {"rows": loops(1), "notes": ((every,),)}):
                    if is_right:
                        self.assertEqual(whole(**passed), whole(**passed))
                    else:
                        with self.assertRaises(InvalidFunction):
                            whole(**passed)


class ClaimsTest(unittest.TestCase):
    """Notes and contracts."""

    def wrong(self, **passed):
        with self.assertRaises(InvalidFunction, msg=str(passed)):
            whole(**passed)

    def test_frames_of_claims(self):
        def of(array):
            return ("val", "<=", (array, "", 0, 0), ("", 0))
        for word, kinds in (("a", "bna"), ("b", "bna"), ("r", "n"), ("wa", "na"), ("k", "")):
            for kind, passed in (("b", {"before": (of(word),)}), ("n", {"rows": loops(1), "notes": ((of(word),),)}),
                                 ("a", {"after": (of(word),)})):
                if kind in kinds:
                    self.assertEqual("f", whole(**passed).called)
                else:
                    self.wrong(**passed)
        for word, kinds in (("i", "bna"), ("o", "n"), ("n", "bna")):
            claim = ("pos", "<=", (word, 0), ("", 0))
            for kind, passed in (("b", {"before": (claim,)}), ("n", {"rows": loops(1), "notes": ((claim,),)}),
                                 ("a", {"after": (claim,)})):
                if kind in kinds:
                    self.assertEqual("f", whole(**passed).called)
                else:
                    self.wrong(**passed)

    def test_own_names(self):
        def own(word):
            return ("all", (word,), ("pos", "<=", (word, 0), ("i", 0)), ("val", "<=", ("a", word, 0, 0), ("x", 0)))
        for word in ("k", "o", "u", "r", "wa", "i", "a", "n"):
            before, notes, after = {"before": (own(word),)}, {"rows": loops(1), "notes": ((own(word),),)}, {"after": (own(word),)}
            for passed, barred in ((before, "ian"), (notes, ("o", "u", "r", "wa", "i", "a", "n")), (after, ("wa", "i", "a", "n"))):
                if word in barred:
                    self.wrong(**passed)
                else:
                    self.assertEqual("f", whole(**passed).called)

    def test_how_many(self):
        for many in (4, 5):
            for passed in ({"before": (LESS,) * many}, {"after": (LESS,) * many}, {"rows": loops(1), "notes": ((LESS,) * many,)}):
                if many == 4:
                    self.assertEqual("f", whole(**passed).called)
                else:
                    self.wrong(**passed)
        for rows, notes in ((loops(1), ()), (loops(1), ((), ())), ((), ((),)), (loops(2), ((),))):
            self.wrong(rows=rows, notes=notes)
        self.assertEqual("f", whole(before=(nested(12),)).called)
        self.wrong(before=(nested(13),))

    def test_kinds_of_values(self):
        for value in JUNK + (deep_junk(), [LESS], LESS, (None,), with_trues(LESS)[0], with_lists(LESS)[0]):
            if value != ():
                self.wrong(before=value)
                self.wrong(after=value)
                if value != ((),):
                    self.wrong(rows=loops(1), notes=value)
                self.wrong(rows=loops(1), notes=(value,))
                if value != LESS:
                    self.wrong(before=(value,))


NESTED = (
    ("move", "o", ("", 0)),
    ("while", LESS, (
        ("if", LESS, (("while", TRUE, (("move", "o", ("", 1)),)), ("move", "o", ("", 2))), (("call", "g", (), (), ()),)),
        ("while", UP, ()),
    )),
    ("if", LESS, (), (("call", "h", (), (), ()), ("call", "g", (), (), ()))),
    ("while", TRUE, (("move", "o", ("", 3)),)),
)


class PartsTest(unittest.TestCase):
    """Rows and loops by their numbers."""

    def setUp(self):
        self.made = whole(rows=NESTED, notes=((), (LESS,), (), (TRUE, LESS)))

    def test_numbers(self):
        made = self.made
        self.assertEqual((13, "f: 13 rows, 4 loops"), (len(made), str(made)))
        self.assertEqual([None, None, 0, 0, 1, 0, 0, 0, None, None, None, None, 3], [made.loop_of(at) for at in range(13)])
        self.assertEqual(["move", "while", "if", "while", "move", "move", "call", "while", "if", "call", "call", "while",
                          "move"], [row[0] for row in made])
        self.assertEqual([made.row(at) for at in range(13)], list(made))
        self.assertEqual(NESTED[1], made.row(1))
        self.assertEqual(NESTED[1][2][0][2][0], made.row(3))
        self.assertEqual((LESS, TRUE, UP, TRUE), made.conditions)
        self.assertEqual(("g", "h"), made.callees)
        deep_while = whole(rows=deep("while", 3), notes=((),) * 3)
        self.assertEqual([None, 0, 1, 2], [deep_while.loop_of(at) for at in range(4)])

    def test_random_rows(self):
        for seed in range(30):
            for function in Maker(seed).program(2, 20):
                self.assertEqual([row for row, ways in plain_rows(function)], list(function))
                self.assertEqual(len(function), len(list(function)))

    def test_wrong_numbers(self):
        for value in (13, -1, 10 ** 70, True, False, None, "1", (), [0], self.made):
            for call in (self.made.row, self.made.loop_of):
                with self.assertRaises(InvalidNumber) as caught:
                    call(value)
                self.assertEqual(value, caught.exception.number)
        for value in (4, -1, True, None, "0"):
            with self.assertRaises(InvalidNumber):
                self.made.with_notes(value, None)

    def test_ways(self):
        for value in ("wa", "n", "i", "x", "f", "", None, 1, ["a"], ("a",), {}, self.made):
            with self.assertRaises(UnknownName) as caught:
                self.made.way_of(value)
            self.assertEqual(value, caught.exception.name)


class ChangesTest(unittest.TestCase):
    """Functions that are made of functions."""

    def test_rows_notes_and_contracts(self):
        made = FILL.with_rows((("write", "a", "", 0, ("x", 1)),), ())
        self.assertEqual(((("write", "a", "", 0, ("x", 1)),), (), (ALL,)), (made.rows, made.notes, made.after))
        self.assertEqual((SPAN,), FILL.with_notes(0, SPAN).notes)
        other = FILL.with_contract((("val", "<", ("x", 0), ("", 3)),), ())
        self.assertEqual(((("val", "<", ("x", 0), ("", 3)),), (), FILL.rows), (other.before, other.after, other.rows))
        two = whole(rows=loops(2), notes=((LESS,), (TRUE,)))
        self.assertEqual(((LESS,), (LESS, LESS)), two.with_notes(1, (LESS, LESS)).notes)
        self.assertEqual(((), (TRUE,)), two.with_notes(0, ()).notes)
        self.assertEqual(((DONE, *SPAN),), FILL.notes)
        for call in (lambda: FILL.with_rows((), ((),)), lambda: FILL.with_rows(FILL.rows, ()), lambda: FILL.with_rows(None, ()),
                     lambda: FILL.with_notes(0, None), lambda: FILL.with_notes(0, (TRUE,) * 5), lambda: FILL.with_notes(0, [TRUE]),
                     lambda: FILL.with_contract((LESS,), ()), lambda: FILL.with_contract((), None),
                     lambda: FILL.with_contract((("val", "<=", ("old", "", 0, 0), ("", 0)),), ())):
            with self.assertRaises(InvalidFunction):
                call()
        self.assertEqual("fill: 3 rows, 1 loops", str(FILL))

    def test_called_as(self):
        other = FILL.called_as("a")
        self.assertEqual(("a", FILL.rows, "fill"), (other.called, other.rows, FILL.called))
        self.assertNotEqual(FILL, other)
        self.assertEqual(FILL, other.called_as("fill"))
        for value in JUNK + (deep_junk(), "Fill"):
            with self.assertRaises(InvalidName):
                FILL.called_as(value)

    def test_relabeled(self):
        made = FILL.relabeled({"a": "b", "n": "m", "old": "was", "x": "y", "i": "j"})
        self.assertEqual(((("full", "b", "m", "was"),), ("y",), ("j",)), (made.arrays, made.amounts, made.places))
        self.assertEqual((("while", ("pos", "<", ("j", 0), ("m", 0)), (("write", "b", "j", 0, ("y", 0)), ("move", "j", ("j", 1)))),),
                         made.rows)
        self.assertEqual(FILL, made.relabeled({"b": "a", "m": "n", "was": "old", "y": "x", "j": "i"}))
        self.assertEqual(FILL, FILL.relabeled({}))
        self.assertEqual(FILL, FILL.relabeled({"a": "a"}))
        twice = TWICE.relabeled({"b": "c", "c": "b", "r": "fill", "m": "r"})
        self.assertEqual((("full", "c", "r", "was"), ("look", "b", "r")), twice.arrays)
        self.assertEqual((("full", "fill", "r"),), twice.loans)
        self.assertEqual((("lend", "fill", "c"), ("call", "fill", ("fill",), (), (("", 7),)),
                          ("if", ("pos", "<", ("", 0), ("r", 0)), (("write", "c", "", 0, ("b", "", 0, 0)),), ())), twice.rows)

    def test_each_kind_of_row(self):
        names = {"a": "b", "b": "a", "i": "o", "o": "i", "x": "u", "u": "x", "n": "r", "r": "n", "h": "hh", "wa": "new"}
        made = whole(rows=RIGHT).relabeled(names)
        self.assertEqual(exchange({"rows": RIGHT[:16]}, names)["rows"], made.rows[:16])
        self.assertEqual((("call", "g", (), (), ()), ("call", "f", ("b", "a", "b", "t"), (("o", 0), ("m", 1), ("", 2)),
                                                      (("u", 0), ("b", "o", 0, 0), ("", 3))), ("call", "a", ("s",), (), ())),
                         made.rows[16:])
        self.assertEqual((("full", "b", "r", "new"), ("look", "a", "r"), ("full", "c", "m", "wc"), ("look", "d", "m")), made.arrays)
        self.assertEqual(("o", "j", "hh", "i", "p", "q"), made.frame.positions)

    def test_own_names_that_are_not_fresh_behind(self):
        made = FILL.relabeled({"i": "k"})
        self.assertEqual(("kk",), made.notes[0][0][1])
        self.assertEqual((ALL,), made.after)
        both = FILL.relabeled({"x": "k", "i": "kk"})
        self.assertEqual((("kkk",), ("kk",)), (both.notes[0][0][1], both.after[0][1]))
        self.assertEqual(renamed_claim(FILL.frame, DONE, {"x": "k", "i": "kk"}), both.notes[0][0])
        self.assertEqual(renamed_claim(FILL.end_frame, ALL, {"x": "k"}), both.after[0])

    def test_wrong_labels(self):
        for names in (None, (), [("a", "b")], {"b": "c"}, {"fill": "g"}, {"": "b"}, {"a": ""}, {"a": "B"}, {"a": None},
                      {"a": "i"}, {"a": "n"}, {"a": "old"}, {"a": "c", "old": "c"}, {1: "b"}, {"k": "l"}, {("a",): "b"},
                      {"a": ["b"]}, FILL):
            with self.assertRaises(InvalidOperation):
                FILL.relabeled(names)

    def test_equality(self):
        right = whole(rows=loops(1), notes=((LESS,),), before=(LESS,), after=(TRUE,))
        self.assertEqual(right, whole(rows=loops(1), notes=((LESS,),), before=(LESS,), after=(TRUE,)))
        for other in (right.called_as("g"), right.with_notes(0, ()), right.with_contract((), (TRUE,)),
                      right.with_contract((LESS,), ()), right.with_rows(loops(2), ((LESS,), ())), right.relabeled({"i": "e"}),
                      right.relabeled({"t": "e"}), right.relabeled({"v": "e"}), right.relabeled({"q": "e"}),
                      right.relabeled({"wa": "e"})):
            self.assertNotEqual(right, other)
        for value in JUNK + (right.rows, "f"):
            self.assertNotEqual(right, value)


if __name__ == "__main__":
    unittest.main()
