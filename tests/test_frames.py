"""Part 1b: frames."""

import unittest

from lentcells.base.frames import Frame, is_name
from lentcells.errors import InvalidFrame, InvalidNumber, InvalidOperation, InvalidTerm, UnknownName
from samples import FRAME, JUNK, LONG, SIXTY, WIDE, deep_junk


def letters(many):
    """So many different names."""
    return tuple("n" + chr(97 + at) for at in range(many))


class NameTest(unittest.TestCase):
    """What a name is."""

    def test_names(self):
        for name in ("a", "z", "ab", "abcdefgh", "not", "k"):
            self.assertIs(True, is_name(name), name)

    def test_no_names(self):
        for value in ("", "abcdefghi", "A", "aB", "a1", "1", "a b", " a", "a\n", "\n", "a_", "a" * 100000, None, True,
                      1, ("a",), ["a"], {"a": 1}, b"a", FRAME, deep_junk()):
            self.assertIs(False, is_name(value), repr(value)[:50])


class FrameTest(unittest.TestCase):
    """What a frame is, and what it tells."""

    def test_properties(self):
        frame = Frame((("b", "n"), ("a", "m"), ("c", "n")), ("j", "i"), ("y", "x"))
        self.assertEqual((("b", "n"), ("a", "m"), ("c", "n")), frame.arrays)
        self.assertEqual((("j", "i"), ("y", "x"), ("n", "m")), (frame.positions, frame.amounts, frame.lengths))
        self.assertEqual(9, len(frame))

    def test_frames_never_change(self):
        for name in ("arrays", "positions", "amounts", "lengths"):
            with self.assertRaises(AttributeError):
                setattr(FRAME, name, ())

    def test_none_of_a_kind(self):
        empty = Frame((), (), ())
        self.assertEqual([(), (), (), (), 0, "- | - | -"], [
            empty.arrays, empty.positions, empty.amounts, empty.lengths, len(empty), str(empty)])
        self.assertEqual("a:n b:n c:m | - | x y", str(Frame(WIDE.arrays, (), ("x", "y"))))
        self.assertEqual("- | i j | -", str(Frame((), ("i", "j"), ())))

    def test_limits(self):
        arrays = tuple((name, "len") for name in letters(13))
        self.assertEqual(13, len(Frame(arrays[:12], (), ())))
        self.assertEqual(6, len(Frame((), letters(6), ())))
        self.assertEqual(6, len(Frame((), (), letters(6))))
        own = tuple((name, "l" + name) for name in letters(12))
        self.assertEqual(12, len(Frame(own, (), ()).lengths))
        for told in ((arrays, (), ()), ((), letters(7), ()), ((), (), letters(7))):
            with self.assertRaises(InvalidFrame):
                Frame(*told)

    def test_equal_names(self):
        for told in (((("a", "n"), ("a", "n")), (), ()), ((("a", "n"), ("a", "m")), (), ()), ((("a", "a"),), (), ()),
                     ((("a", "n"), ("b", "a")), (), ()), ((("a", "n"),), ("a",), ()), ((("a", "n"),), ("n",), ()),
                     ((("a", "n"),), (), ("n",)), ((("a", "n"),), (), ("a",)), ((), ("i", "i"), ()),
                     ((), (), ("x", "x")), ((), ("i",), ("i",))):
            with self.assertRaises(InvalidFrame):
                Frame(*told)

    def test_no_frames(self):
        no_tuples = (None, True, 0, "", "ab", [], ["a"], {}, {"a": 1}, FRAME)
        no_names = (("A",), ("",), (1,), (None,), (("a",),), (["a"],), ("abcdefghi",), ("a", "b1"), deep_junk())
        no_pairs = (("ab",), (("a", "n", "m"),), (("a",),), (["a", "n"],), (("a", 1),), (("a", ""),), (("A", "n"),))
        for value in no_tuples + no_names + no_pairs:
            for told in ((value, (), ()), ((), value, ()), ((), (), value)):
                if value != ("ab",) or told[0] == value:
                    with self.assertRaises(InvalidFrame, msg=repr(told)[:80]):
                        Frame(*told)

    def test_kinds(self):
        told = {"a": "array", "n": "length", "i": "position", "j": "position", "x": "value"}
        self.assertEqual(told, {word: FRAME.kind_of(word) for word in told})
        self.assertEqual(("n", "n", "m"), tuple(WIDE.length_of(array) for array in "abc"))

    def test_unknown_names(self):
        for value in JUNK + ("z", "k"):
            for method in (FRAME.kind_of, FRAME.length_of):
                with self.assertRaises(UnknownName) as caught:
                    method(value)
                self.assertIs(value, caught.exception.name)
        for value in ("n", "i", "x"):
            with self.assertRaises(UnknownName) as caught:
                FRAME.length_of(value)
            self.assertEqual(value, caught.exception.name)

    def test_fresh(self):
        for word in ("k", "b", "abcdefgh", "not"):
            self.assertIs(True, FRAME.is_fresh(word))
        for word in ("a", "n", "i", "j", "x") + JUNK:
            self.assertIs(False, FRAME.is_fresh(word), word)

    def test_contains(self):
        for word in ("a", "n", "i", "j", "x"):
            self.assertIs(True, word in FRAME)
        for word in JUNK + ("k", deep_junk()):
            self.assertIs(False, word in FRAME)

    def test_equality(self):
        self.assertTrue(FRAME == Frame((("a", "n"),), ("i", "j"), ("x",)))
        self.assertFalse(FRAME != Frame((("a", "n"),), ("i", "j"), ("x",)))
        for other in (Frame((("a", "n"),), ("j", "i"), ("x",)), Frame((("a", "m"),), ("i", "j"), ("x",)),
                      Frame((("a", "n"),), ("i", "j"), ()), Frame((), ("i", "j"), ("x",)), *JUNK[:-3], str(FRAME)):
            self.assertFalse(FRAME == other)
            self.assertTrue(FRAME != other)

    def test_no_iteration(self):
        for call in (iter, list, tuple):
            with self.assertRaises(TypeError):
                call(FRAME)


class TermTest(unittest.TestCase):
    """Position terms, value terms and cells."""

    def test_position_terms(self):
        for term in (("", 0), ("", -5), ("i", 1), ("j", -1), ("n", 0), ("i", SIXTY), ("i", -SIXTY)):
            self.assertIs(True, FRAME.is_position_term(term), term)
        for term in (("x", 0), ("a", 0), ("k", 0), ("i", True), ("i", False), ("", False), ("i", LONG), ("i", -LONG),
                     ["i", 0], ("i",), ("i", 0, 0), ("i", "0"), ("a", "i", 0, 0), (["i"], 0), (1, 0)) + JUNK:
            self.assertIs(False, FRAME.is_position_term(term), term)

    def test_value_terms(self):
        for term in (("", 0), ("x", 1), ("x", -SIXTY), ("a", "i", 0, 0), ("a", "", -1, 3), ("a", "n", -1, 0),
                     ("a", "j", SIXTY, SIXTY)):
            self.assertIs(True, FRAME.is_value_term(term), term)
        for term in (("i", 0), ("n", 0), ("a", 0), ("k", 0), ("x", True), ("x", LONG), ("a", "x", 0, 0),
                     ("a", "k", 0, 0), ("b", "i", 0, 0), ("a", "i", False, 0), ("a", "i", 0, False),
                     ("a", "i", LONG, 0), ("a", "i", 0, LONG), ["a", "i", 0, 0], ("a", "i", 0), ("a", ["i"], 0, 0),
                     ("x", "i", 0, 0), ("a", "i", 0, 0, 0)) + JUNK:
            self.assertIs(False, FRAME.is_value_term(term), term)

    def test_own_names(self):
        self.assertIs(True, FRAME.is_position_term(("k", 3), own=("k",)))
        self.assertIs(True, FRAME.is_position_term(("p", 0), own=("k", "p")))
        self.assertIs(False, FRAME.is_position_term(("q", 0), own=("k", "p")))
        self.assertIs(True, FRAME.is_value_term(("a", "k", 2, 0), own=("k",)))
        self.assertIs(False, FRAME.is_value_term(("k", 0), own=("k",)))
        self.assertIs(False, FRAME.is_position_term(("k", 0), own=()))
        for own in (("i",), ("x",), ("a",), ("n",), ("k", "k"), ("k", "p", "q"), ["k"], "k", None, ("",), ("K",),
                    (1,), (("k",),), {"k": 1}, ("k", "i"), FRAME):
            for judge in (FRAME.is_position_term, FRAME.is_value_term):
                with self.assertRaises(InvalidTerm, msg=repr(own)):
                    judge(None, own=own)

    def test_shifted(self):
        self.assertEqual(("i", 3), FRAME.shifted(("i", 1), 2))
        self.assertEqual(("x", -2), FRAME.shifted(("x", 1), -3))
        self.assertEqual(("", 7), FRAME.shifted(("", 7), 0))
        self.assertEqual(("a", "i", 1, 5), FRAME.shifted(("a", "i", 1, 3), 2))
        self.assertEqual(("i", SIXTY), FRAME.shifted(("i", 0), SIXTY))

    def test_shifted_wrong(self):
        for term in (("k", 0), ("i", True), ("a", 0), ["i", 0]) + JUNK:
            with self.assertRaises(InvalidTerm):
                FRAME.shifted(term, "no number")
        for shift in (True, False, None, "1", LONG, -LONG, 10 ** 99, (1,), [1], FRAME):
            with self.assertRaises(InvalidNumber) as caught:
                FRAME.shifted(("i", 0), shift)
            self.assertIs(shift, caught.exception.number)
        for term in (("i", 1), ("x", 1), ("a", "i", 0, 1)):
            with self.assertRaises(InvalidTerm):
                FRAME.shifted(term, SIXTY)


class MadeTest(unittest.TestCase):
    """Frames that are made of a frame."""

    def test_with_names(self):
        made = FRAME.with_names(arrays=(("b", "n"), ("c", "m")), positions=("k",), values=("y",))
        self.assertEqual(Frame((("a", "n"), ("b", "n"), ("c", "m")), ("i", "j", "k"), ("x", "y")), made)
        self.assertEqual(FRAME, FRAME.with_names())
        self.assertEqual("a:n | i j | x", str(FRAME))

    def test_with_names_wrong(self):
        for told in ({"arrays": (("a", "m"),)}, {"arrays": (("b", "i"),)}, {"arrays": [("b", "m")]},
                     {"positions": ("x",)}, {"positions": ["k"]}, {"positions": "k"}, {"values": ("n",)},
                     {"values": None}, {"positions": ("k", "l", "m", "o", "p")},
                     {"positions": ("k",), "values": ("k",)}):
            with self.assertRaises(InvalidFrame):
                FRAME.with_names(**told)
        self.assertEqual("a:n | i j | x", str(FRAME))

    def test_renamed(self):
        self.assertEqual(Frame((("a", "n"),), ("j", "i"), ("x",)), FRAME.renamed({"i": "j", "j": "i"}))
        self.assertEqual(Frame((("n", "a"),), ("i", "j"), ("x",)), FRAME.renamed({"a": "n", "n": "a"}))
        self.assertEqual(Frame((("a", "q"), ("b", "q"), ("c", "m")), ("i", "j"), ("x", "y")), WIDE.renamed({"n": "q"}))
        self.assertEqual(FRAME, FRAME.renamed({}))
        self.assertEqual("a:n | i j | x", str(FRAME))

    def test_renamed_wrong(self):
        for names in ({"i": "j"}, {"i": "x"}, {"i": "k", "j": "k"}, {"k": "l"}, {"i": "K"}, {"i": None}, {"": "k"},
                      {1: "k"}, {("i",): "k"}, {"i": ["k"]}, [("i", "k")], None, "i", ("i", "k"), FRAME):
            with self.assertRaises(InvalidOperation, msg=repr(names)):
                FRAME.renamed(names)

    def test_passed_dicts_stay(self):
        names = {"j": "i", "i": "j"}
        FRAME.renamed(names)
        self.assertEqual([("j", "i"), ("i", "j")], list(names.items()))


if __name__ == "__main__":
    unittest.main()
