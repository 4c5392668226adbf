"""Part 1d: situations."""

import random
import unittest

from lentcells.base.frames import Frame
from lentcells.errors import (
    InvalidClaim, InvalidFrame, InvalidNumber, InvalidOperation, InvalidSituation, InvalidTerm, UnknownName)
from lentcells.world.situations import Situation
from samples import (
    BROKEN, FRAME, JUNK, LONG, SHOWN, SIXTY, UPTO, WIDE, Maker, deep_junk, nested, plain_failure, plain_truth)

EMPTY = Situation(Frame((), (), ()), {}, {}, {})


def every(guard, body, own=("k",)):
    """An all with these parts."""
    return ("all", own, guard, body)


def wide(rows_n=2, rows_m=3):
    """A situation for WIDE with so many cells."""
    return Situation(WIDE, {"b": tuple(range(rows_n)), "a": (0,) * rows_n, "c": tuple(range(5, 5 + rows_m))},
                     {"j": 1, "i": 0}, {"y": 2, "x": -1})


class MadeTest(unittest.TestCase):
    """What a situation is, and what it tells."""

    def test_properties(self):
        made = wide()
        self.assertEqual([WIDE, {"a": (0, 0), "b": (0, 1), "c": (5, 6, 7)}, {"i": 0, "j": 1}, {"x": -1, "y": 2},
                          {"m": 3, "n": 2}], [made.frame, made.rows, made.positions, made.amounts, made.lengths])
        for told, keys in ((made.rows, "abc"), (made.positions, "ij"), (made.amounts, "xy"), (made.lengths, "mn")):
            self.assertEqual(list(keys), list(told))

    def test_texts(self):
        self.assertEqual("a=4 0 7 | i=1 j=2 | x=5", str(SHOWN))
        self.assertEqual("a=0 0 b=0 1 c=5 6 7 | i=0 j=1 | x=-1 y=2", str(wide()))
        self.assertEqual("a=- b=- c=5 | i=0 j=1 | x=-1 y=2", str(wide(0, 1)))
        self.assertEqual("- | - | -", str(EMPTY))
        self.assertEqual("a=- | - | -", str(Situation(Frame((("a", "n"),), (), ()), {"a": ()}, {}, {})))
        frame = Frame((("b", "n"), ("a", "n")), ("j", "i"), ("y", "x"))
        self.assertEqual("b=1 a=-2 | j=3 i=4 | y=5 x=6", str(Situation(
            frame, {"a": (-2,), "b": (1,)}, {"i": 4, "j": 3}, {"x": 6, "y": 5})))

    def test_lengths_of_situations(self):
        self.assertEqual([0, 3, 7, 0], [len(EMPTY), len(SHOWN), len(wide()), len(wide(0, 0))])

    def test_situations_never_change(self):
        for name in ("frame", "rows", "positions", "amounts", "lengths"):
            with self.assertRaises(AttributeError):
                setattr(SHOWN, name, {})

    def test_nothing_is_shared(self):
        rows, positions, values = {"a": (4, 0, 7)}, {"i": 1, "j": 2}, {"x": 5}
        made = Situation(FRAME, rows, positions, values)
        rows["a"], positions["i"], values["y"] = (), 7, 1
        self.assertEqual(SHOWN, made)
        for told in (made.rows, made.positions, made.amounts, made.lengths):
            told.clear()
        self.assertEqual(SHOWN, made)
        self.assertEqual({"n": 3}, made.lengths)

    def test_equality(self):
        same = Situation(FRAME, {"a": (4, 0, 7)}, {"j": 2, "i": 1}, {"x": 5})
        self.assertTrue(SHOWN == same)
        self.assertFalse(SHOWN != same)
        for other in (SHOWN.with_cell("a", 0, 5), SHOWN.with_number("i", 2), SHOWN.with_number("x", 4), EMPTY,
                      Situation(FRAME.renamed({"n": "m"}), SHOWN.rows, SHOWN.positions, SHOWN.amounts), str(SHOWN),
                      *JUNK[:-2], BROKEN):
            self.assertFalse(SHOWN == other)
            self.assertTrue(SHOWN != other)

    def test_no_iteration(self):
        with self.assertRaises(TypeError):
            iter(SHOWN)

    def wrong(self, rows, positions, values):
        with self.assertRaises(InvalidSituation, msg=repr((rows, positions, values))[:200]):
            Situation(FRAME, rows, positions, values)

    def test_integers(self):
        for number in (SIXTY, -SIXTY):
            self.assertEqual(number, Situation(FRAME, {"a": (number,)}, {"i": number, "j": 0}, {"x": number}).cell("a",
                                                                                                                   0))
        for number in (LONG, -LONG, 10 ** 99, True, False, None, "1", (1,), [1]):
            self.wrong({"a": (number,)}, {"i": 0, "j": 0}, {"x": 0})
            self.wrong({"a": ()}, {"i": 0, "j": number}, {"x": 0})
            self.wrong({"a": ()}, {"i": 0, "j": 0}, {"x": number})

    def test_keys(self):
        rows, positions, values = {"a": (1,)}, {"i": 1, "j": 2}, {"x": 5}
        for wrong in ({}, {"b": (1,)}, {"a": (1,), "b": (1,)}, {"a": (1,), "n": (1,)}, {"a": [1]}, {"a": 1}, {1: (1,)},
                      {"a": (1,), None: (1,)}, [("a", (1,))], None, "a", ("a",), FRAME):
            self.wrong(wrong, positions, values)
        for wrong in ({"i": 1}, {"i": 1, "j": 2, "k": 3}, {"i": 1, "n": 2}, {"i": 1, "x": 2}, {"i": 1, 2: 2}, None, [],
                      ("i", "j"), deep_junk()):
            self.wrong(rows, wrong, values)
        for wrong in ({}, {"y": 1}, {"x": 1, "y": 1}, {"i": 1}, None, (), [5], SHOWN):
            self.wrong(rows, positions, wrong)

    def test_unlike_lengths(self):
        positions, values = {"i": 0, "j": 0}, {"x": 0, "y": 0}
        with self.assertRaises(InvalidSituation):
            Situation(WIDE, {"a": (1,), "b": (1, 2), "c": ()}, positions, values)
        self.assertEqual(4, len(Situation(WIDE, {"a": (1,), "b": (1,), "c": (1, 2)}, positions, values)))

    def test_wrong_frames(self):
        for frame in (None, str(FRAME), (), SHOWN, {}):
            with self.assertRaises(InvalidFrame):
                Situation(frame, None, None, None)


class ReadTest(unittest.TestCase):
    """Cells and terms."""

    def test_cells(self):
        self.assertEqual([0, 4, 0, 7, 0, 0, 0], [SHOWN.cell("a", at) for at in (-1, 0, 1, 2, 3, SIXTY, -SIXTY)])
        self.assertEqual([0, 0], [wide(0).cell("a", at) for at in (-1, 0)])
        for array in ("n", "i", "b", "", None, ["a"], 1, FRAME):
            with self.assertRaises(UnknownName) as caught:
                SHOWN.cell(array, None)
            self.assertIs(array, caught.exception.name)
        for position in (None, True, False, "0", LONG, -LONG, (0,), [0]):
            with self.assertRaises(InvalidNumber) as caught:
                SHOWN.cell("a", position)
            self.assertIs(position, caught.exception.number)

    def test_terms(self):
        self.assertEqual([3, 2, 5, -7], [SHOWN.position_at(term) for term in (("i", 2), ("n", -1), ("", 5), ("", -7))])
        self.assertEqual([6, -2, 7, 1, 9, 3, 4], [SHOWN.value_at(term) for term in (
            ("x", 1), ("", -2), ("a", "j", 0, 0), ("a", "i", 0, 1), ("a", "n", -1, 2), ("a", "n", 0, 3),
            ("a", "", 0, 0))])
        for term in (("k", 0), ("x", 0), ("i", True), ("i", LONG), ["i", 0], ("a", "i", 0, 0)) + JUNK:
            with self.assertRaises(InvalidTerm):
                SHOWN.position_at(term)
        for term in (("k", 0), ("i", 0), ("x", False), ("a", "k", 0, 0), ["x", 0], ("a", "i", 0, LONG)) + JUNK:
            with self.assertRaises(InvalidTerm):
                SHOWN.value_at(term)


class HoldsTest(unittest.TestCase):
    """holds and failure."""

    def test_atoms(self):
        for op, told in (("<=", (True, True, False)), ("<", (True, False, False)), ("==", (False, True, False))):
            self.assertEqual(told, tuple(SHOWN.holds(("pos", op, ("i", more), ("j", 0))) for more in (0, 1, 2)))
            self.assertEqual(told, tuple(SHOWN.holds(("val", op, ("a", "", 0, more), ("x", 0))) for more in (0, 1, 2)))

    def test_joined(self):
        yes, no = ("and", ()), ("or", ())
        for claim, told in ((yes, True), (no, False), (("not", yes), False), (("and", (yes, no)), False),
                            (("or", (no, yes)), True), (("or", (no, no)), False), (("and", (yes, yes)), True)):
            self.assertIs(told, SHOWN.holds(claim))

    def test_one_position_alone(self):
        cell = ("a", "k", 0, 0)
        guard = ("and", ())
        frame = Frame((("a", "n"),), ("i",), ("x",))
        for at in range(4):
            row = tuple(int(place == at) for place in range(4))
            claim = every(guard, ("val", "==", cell, ("", 0)))
            self.assertEqual((at,), Situation(frame, {"a": row}, {"i": 0}, {"x": 0}).failure(claim))
        filled = Situation(frame, {"a": (1, 1, 1, 1)}, {"i": 9}, {"x": 0})
        self.assertEqual((-1,), filled.failure(every(guard, ("val", "==", cell, ("", 1)))))
        ahead, behind = ("pos", "<=", ("", 0), ("k", 0)), ("pos", "<=", ("k", 0), ("n", -1))
        self.assertEqual((4,), filled.failure(every(ahead, ("val", "==", cell, ("", 1)))))
        self.assertEqual((-1,), filled.failure(every(behind, ("val", "==", cell, ("", 1)))))
        self.assertIsNone(filled.failure(every(("and", (ahead, behind)), ("val", "==", cell, ("", 1)))))
        for far in (SIXTY, -SIXTY, 40, -40):
            claim = every(("pos", "==", ("k", 0), ("i", 0)), ("val", "==", cell, ("", 1)))
            self.assertEqual((far,), filled.with_number("i", far).failure(claim))
            self.assertFalse(filled.with_number("i", far).holds(claim))
        claim = every(("pos", "<=", ("i", 0), ("k", 0)), ("val", "<", cell, cell))
        self.assertEqual((-SIXTY,), filled.with_number("i", -SIXTY).failure(claim))
        claim = every(("or", (("pos", "==", ("k", 0), ("i", 3)), ("pos", "==", ("k", 0), ("i", 2)))), ("or", ()))
        self.assertEqual((11,), filled.failure(claim))

    def test_pairs(self):
        order = every(("and", (("pos", "<=", ("", 0), ("p", 0)), ("pos", "<=", ("p", 0), ("q", 0)),
                               ("pos", "<=", ("q", 0), ("n", -1)))),
                      ("val", "<=", ("a", "p", 0, 0), ("a", "q", 0, 0)), ("p", "q"))
        frame = Frame((("a", "n"),), (), ())
        for row, told in (((), None), ((3,), None), ((1, 2, 2, 5), None), ((1, 3, 2, 5), (1, 2)),
                          ((4, 3, 2, 1), (0, 1)), ((1, 2, 5, 4, 3), (2, 3)), ((1, 5, 7, 6, 4), (1, 4))):
            made = Situation(frame, {"a": row}, {}, {})
            self.assertEqual(told, made.failure(order))
            self.assertIs(told is None, made.holds(order))
        self.assertEqual((-1, -1), Situation(frame, {"a": (1,)}, {}, {}).failure(
            every(("and", ()), ("or", ()), ("p", "q"))))
        same = every(("pos", "==", ("p", 0), ("q", 0)), ("val", "==", ("a", "p", 0, 0), ("", 0)), ("p", "q"))
        self.assertEqual((1, 1), Situation(frame, {"a": (0, 4, 0)}, {}, {}).failure(same))

    def test_far_pairs(self):
        frame = Frame((("a", "n"),), ("i", "j"), ())
        made = Situation(frame, {"a": (1, 2)}, {"i": SIXTY, "j": -SIXTY}, {})
        guard = ("and", (("pos", "<=", ("i", 0), ("p", 0)), ("pos", "<=", ("q", 0), ("j", 1))))
        self.assertEqual((SIXTY, 1 - SIXTY), made.failure(every(guard, ("or", ()), ("p", "q"))))
        guard = ("and", (("pos", "==", ("i", -5), ("p", 0)), ("pos", "<=", ("p", 0), ("q", 0))))
        self.assertEqual((SIXTY - 5, SIXTY - 5), made.failure(every(guard, ("or", ()), ("p", "q"))))

    def test_guards_of_which_nothing_is_true(self):
        body = ("or", ())
        for guard in (("or", ()), ("and", (("pos", "<=", ("k", 0), ("i", 0)), ("pos", "<=", ("i", 1), ("k", 0)))),
                      ("and", (("pos", "==", ("k", 0), ("i", 0)), ("pos", "==", ("j", 0), ("k", 0))))):
            self.assertIsNone(SHOWN.failure(every(guard, body)))
        self.assertEqual((-1,), SHOWN.failure(every(("and", ()), body)))
        self.assertEqual((-1,), EMPTY.failure(every(("and", ()), body)))

    def test_random_claims(self):
        for seed, frame in enumerate((FRAME, WIDE, Frame((("a", "n"),), (), ()),
                                      Frame((("a", "n"), ("b", "m")), ("i",), ()))):
            maker = Maker(frame, random.Random(seed))
            for _ in range(150):
                claim, situation = maker.claim(), maker.situation()
                self.assertIs(plain_truth(situation, claim), situation.holds(claim), (claim, str(situation)))
                claim = maker.all()
                self.assertEqual(plain_failure(situation, claim), situation.failure(claim), (claim, str(situation)))
                # Nothing beyond the range of an all makes it false if nothing in the range does.
                self.assertIs(plain_failure(situation, claim, 3) is None, situation.holds(claim))

    def test_many_cells(self):
        frame = Frame((("a", "n"),), (), ())
        order = every(("and", (("pos", "<=", ("", 0), ("p", 0)), ("pos", "<=", ("p", 0), ("q", 0)))),
                      ("val", "<=", ("a", "p", 0, 0), ("a", "q", 0, 0)), ("p", "q"))
        made = Situation(frame, {"a": (-1,) * 700 + (-2,) * 300}, {}, {})
        self.assertEqual((0, 700), made.failure(order))
        self.assertTrue(Situation(frame, {"a": (-2,) * 700 + (-1,) * 300}, {}, {}).holds(order))

    def test_wrong_claims(self):
        for claim in JUNK + (nested(13), ["not", UPTO], ("pos", "<", ("i", True), ("j", 0))):
            for call in (SHOWN.holds, SHOWN.failure):
                with self.assertRaises(InvalidClaim):
                    call(claim)
        for claim in (("not", UPTO), ("and", (UPTO,)), ("pos", "<", ("i", 0), ("j", 0))):
            with self.assertRaises(InvalidOperation):
                SHOWN.failure(claim)


class ChangedTest(unittest.TestCase):
    """with_cell, with_number and for_frame."""

    def test_with_cell(self):
        self.assertEqual("a=4 9 7 | i=1 j=2 | x=5", str(SHOWN.with_cell("a", 1, 9)))
        self.assertEqual("a=9 0 7 | i=1 j=2 | x=5", str(SHOWN.with_cell("a", 0, 9)))
        self.assertEqual("a=4 0 -9 | i=1 j=2 | x=5", str(SHOWN.with_cell("a", 2, -9)))
        self.assertEqual((2,), SHOWN.with_cell("a", 1, 6).with_cell("a", 1, 0).with_number("i", 2).failure(UPTO))
        self.assertEqual("a=4 0 7 | i=1 j=2 | x=5", str(SHOWN))

    def test_with_cell_wrong(self):
        for array in ("n", "b", "", None, ["a"]):
            with self.assertRaises(UnknownName):
                SHOWN.with_cell(array, None, None)
        for position in (-1, 3, True, False, None, "0", LONG, [0]):
            with self.assertRaises(InvalidNumber) as caught:
                SHOWN.with_cell("a", position, None)
            self.assertIs(position, caught.exception.number)
        with self.assertRaises(InvalidNumber):
            wide(0).with_cell("a", 0, 0)
        for content in (True, None, "1", LONG, -LONG, (1,)):
            with self.assertRaises(InvalidSituation):
                SHOWN.with_cell("a", 0, content)
            with self.assertRaises(InvalidSituation):
                SHOWN.with_number("i", content)
            with self.assertRaises(InvalidSituation):
                SHOWN.with_number("x", content)

    def test_with_number(self):
        self.assertEqual("a=4 0 7 | i=-3 j=2 | x=5", str(SHOWN.with_number("i", -3)))
        self.assertEqual("a=4 0 7 | i=1 j=2 | x=6", str(SHOWN.with_number("x", 6)))
        self.assertEqual(3, SHOWN.with_number("j", 3).position_at(("j", 0)))
        self.assertEqual(8, SHOWN.with_number("x", 8).value_at(("x", 0)))
        for word in ("a", "n", "k", "", None, ["i"], 1, FRAME):
            with self.assertRaises(UnknownName) as caught:
                SHOWN.with_number(word, None)
            self.assertIs(word, caught.exception.name)
        self.assertEqual("a=4 0 7 | i=1 j=2 | x=5", str(SHOWN))

    def test_for_frame(self):
        made = wide()
        self.assertEqual("b=0 1 | j=1 i=0 | -", str(made.for_frame(Frame((("b", "n"),), ("j", "i"), ()))))
        self.assertEqual("- | - | y=2", str(made.for_frame(Frame((), (), ("y",)))))
        self.assertEqual(made, made.for_frame(WIDE))
        for frame in (Frame((("a", "m"),), (), ()), Frame((("a", "l"),), (), ()), Frame((), ("k",), ()),
                      Frame((), ("x",), ()), Frame((), (), ("i",)), Frame((("i", "n"),), (), ()), Frame((), ("n",), ()),
                      Frame((("d", "n"),), (), ()), WIDE.with_names(positions=("k",)), Frame((), (), ("a",))):
            with self.assertRaises(InvalidOperation):
                made.for_frame(frame)
        for frame in (None, made, "a:n", ()):
            with self.assertRaises(InvalidFrame):
                made.for_frame(frame)


if __name__ == "__main__":
    unittest.main()
