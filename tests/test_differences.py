"""Part 2a: differences."""

import random
import unittest

from lentcells.errors import InvalidClaim, InvalidFrame, InvalidOperation, InvalidTerm
from lentcells.solve.differences import differences_of, fitting, is_fitting, is_ring, ring, tightest
from samples import FRAME, JUNK, LONG, SIXTY, UPTO, deep_junk, nested

CHAIN = (("i", "", 4), ("j", "i", -2), ("", "j", 1))
CELL = ("a", "i", 0)
# Each point that stands in one of these is no point.
NO_POINTS = (None, True, 0, "A", "a1", "abcdefghi", "*", "*0", "*01", "*1a", "**1", "1", "*-1", " ", (), ("a", "i"),
             ("a", "i", True), ("a", "i", LONG), ("a", "i", "0"), ("", "i", 0), ("*1", "i", 0), ("a", "*0", 0),
             ("a", ("i",), 0), ["a", "i", 0], ("a", "i", 0, 0), ("a", None, 0), [], {}, FRAME, deep_junk())


def random_differences(maker, points):
    """Up to ten differences of these points."""
    return tuple((maker.choice(points), maker.choice(points), maker.randint(-3, 6)) for _ in range(maker.randint(0,
                                                                                                                 10)))


def plain_bounds(differences, points):
    """For all pairs of points the least sum along differences from one to the other, or None; by all detours."""
    least = {(one, other): 0 if one == other else None for one in points for other in points}
    for one, other, most in differences:
        least[one, other] = most if least[one, other] is None else min(most, least[one, other])
    for by in points:
        for one in points:
            for other in points:
                if least[one, by] is not None and least[by, other] is not None:
                    total = least[one, by] + least[by, other]
                    least[one, other] = total if least[one, other] is None else min(total, least[one, other])
    return least


class DifferencesTest(unittest.TestCase):
    """What differences are."""

    def refused(self, differences):
        for call in (fitting, ring, lambda told: is_fitting(told, None), lambda told: is_ring(told, None),
                     lambda told: tightest(told, None, None)):
            with self.assertRaises(InvalidOperation, msg=repr(differences)[:100]):
                call(differences)

    def test_points(self):
        for point in ("", "i", "abcdefgh", "*1", "*10", "*987", "*" + "9" * 70, CELL, ("a", "", -3), ("a", "*2", 0),
                      ("abcdefgh", "i", SIXTY)):
            self.assertEqual(0, tightest((), point, point))
            self.assertIn(point, fitting(((point, "q", 1),)))

    def test_no_points(self):
        for point in NO_POINTS:
            self.refused(((point, "i", 0),))
            self.refused((("i", point, 0),))

    def test_no_differences(self):
        for value in (None, [], [("i", "j", 0)], ("i", "j", 0), (["i", "j", 0],), (("i", "j"),), (("i", "j", 0, 0),),
                      (("i", "j", True),), (("i", "j", None),), (("i", "j", LONG),), (("i", "j", -LONG),), ((),),
                      (None,),
                      {}, "ij", FRAME, deep_junk()):
            self.refused(value)

    def test_sixty(self):
        many = tuple(("i", "j", at) for at in range(61))
        self.assertTrue(is_fitting(many[:60], fitting(many[:60])))
        self.refused(many)

    def test_integers(self):
        differences = (("i", "", SIXTY), ("", "i", -SIXTY))
        self.assertEqual({"": 0, "i": SIXTY}, fitting(differences))


class FittingTest(unittest.TestCase):
    """fitting and is_fitting."""

    def test_keys(self):
        differences = (("x", ("b", "i", 0), 3), ("*2", "*10", 1), (("a", "", 2), "ab", 0), (("a", "", -2), "*1", 0))
        self.assertEqual(["", "*1", "*10", "*2", "ab", "x", ("a", "", -2), ("a", "", 2), ("b", "i", 0)],
                         list(fitting(differences)))
        self.assertEqual({"": 0}, fitting(()))
        self.assertEqual({"": 0, "i": 0}, {**fitting((("i", "i", 0),)), "i": 0})

    def test_fitting(self):
        self.assertTrue(is_fitting(CHAIN, fitting(CHAIN)))
        self.assertIsNone(fitting(CHAIN + (("i", "j", 1),)))
        self.assertIsNone(fitting((("i", "i", -1),)))
        self.assertIsNone(fitting((("", "", -1),)))

    def test_is_fitting(self):
        self.assertIs(True, is_fitting(CHAIN, {"": 0, "i": 1, "j": -1}))
        self.assertIs(True, is_fitting(CHAIN, {"j": 2, "": 0, "i": 4}))
        self.assertIs(True, is_fitting((), {"": 0}))
        self.assertIs(True, is_fitting(((CELL, "i", 0),), {CELL: -10 ** 99, "i": 10 ** 99, "": 0}))
        for value in ({"": 0, "i": 1}, {"i": 1, "j": -1}, {"": 0, "i": 1, "j": -1, "k": 0}, {"": 0, "i": 5, "j": 0},
                      {"": 1, "i": 2, "j": 0}, {"": 0, "i": True, "j": -1}, {"": False, "i": 1, "j": -1},
                      {"": 0, "i": 1, "j": None}, {"": 0, "i": 1, "j": "-1"}, {"": 0, "i": 1, "k": -1},
                      {"": 0, "i": 1, None: -1}, [("", 0), ("i", 1), ("j", -1)], None, (), {}, "ij", FRAME):
            self.assertIs(False, is_fitting(CHAIN, value), value)
        differences = ((("a", "i", 1), "", 1),)
        self.assertIs(True, is_fitting(differences, {"": 0, ("a", "i", 1): 1}))
        self.assertIs(False, is_fitting(differences, {"": 0, ("a", "i", True): 1}))

    def test_passed_values_stay(self):
        value = {"j": 2, "": 0, "i": 4}
        is_fitting(CHAIN, value)
        self.assertEqual([("j", 2), ("", 0), ("i", 4)], list(value.items()))


class RingTest(unittest.TestCase):
    """ring and is_ring."""

    def test_ring(self):
        self.assertIsNone(ring(CHAIN))
        self.assertIsNone(ring(()))
        self.assertIsNone(ring((("i", "j", 1), ("j", "i", -1))))
        self.assertEqual((0,), ring((("i", "i", -1),)))
        self.assertEqual({1, 3}, set(ring(CHAIN + (("i", "j", 1),))))
        self.assertEqual({0, 1, 3}, set(ring((("i", "j", -1), ("j", "k", 0), ("k", "j", 3), ("k", "i", 0)))))
        self.assertTrue(is_ring((("i", "j", -SIXTY), ("j", "i", SIXTY - 1)), (0, 1)))

    def test_is_ring(self):
        differences = (("i", "j", -1), ("j", "k", 0), ("k", "i", 0), ("k", "k", -1), ("j", "i", 1))
        for value in ((0, 1, 2), (1, 2, 0), (2, 0, 1), (0, 1, 2, 0, 1, 2), (3,), (3, 3), (2, 0, 4, 0, 1),
                      (0, 1, 3, 2), (3, 2, 0, 1)):
            self.assertIs(True, is_ring(differences, value), value)
        for value in ((), (0,), (0, 1), (2, 1, 0), (0, 4), (4, 0), (0, 1, 2, 0), (5,), (-2,), (0, 1, -3), [0, 1, 2],
                      None,
                      3, (None,), ("3",), ((3,),), (3, None), (0, True, 2), (False, 1, 2), {3: 3}, (LONG,), FRAME):
            self.assertIs(False, is_ring(differences, value), value)
        self.assertIs(False, is_ring((), (0,)))
        self.assertIs(False, is_ring((("i", "i", 0),), (0,)))


class TightestTest(unittest.TestCase):
    """tightest."""

    def test_chain(self):
        self.assertEqual([2, -1, -2, 4, 1], [tightest(CHAIN, *pair) for pair in (
            ("j", ""), ("", "i"), ("j", "i"), ("i", ""), ("", "j"))])
        self.assertEqual(5, tightest(CHAIN, "i", "j"))

    def test_no_bound(self):
        self.assertIsNone(tightest((("i", "j", 1),), "j", "i"))
        self.assertIsNone(tightest(CHAIN, "k", "i"))
        self.assertIsNone(tightest(CHAIN, "i", CELL))
        self.assertIsNone(tightest((), "", "i"))
        self.assertEqual(0, tightest(CHAIN, "k", "k"))
        self.assertEqual(0, tightest(CHAIN, "i", "i"))

    def test_wrong(self):
        for point in NO_POINTS:
            with self.assertRaises(InvalidTerm):
                tightest(CHAIN, point, None)
            with self.assertRaises(InvalidTerm):
                tightest((("i", "i", -1),), "i", point)
        for differences in ((("i", "i", -1),), CHAIN + (("i", "j", 1),)):
            for pair in (("i", "j"), ("k", "k"), ("i", "i")):
                with self.assertRaises(InvalidOperation):
                    tightest(differences, *pair)

    def test_random(self):
        maker = random.Random(5)
        points = ("", "i", "j", "*1", CELL, ("a", "", 0))
        rings = 0
        for _ in range(500):
            differences = random_differences(maker, points)
            least = plain_bounds(differences, points)
            found, fits = ring(differences), fitting(differences)
            if any(least[point, point] < 0 for point in points):
                rings += 1
                self.assertIsNone(fits)
                self.assertTrue(is_ring(differences, found), (differences, found))
                self.assertLess(sum(differences[at][2] for at in found), 0)
                for here, there in zip(found, found[1:] + found[:1]):
                    self.assertEqual(differences[here][1], differences[there][0])
            else:
                self.assertIsNone(found)
                self.assertTrue(is_fitting(differences, fits))
                self.assertTrue(all(fits[one] - fits[other] <= most for one, other, most in differences))
                for one in points:
                    for other in points:
                        self.assertEqual(least[one, other], tightest(differences, one, other))
        self.assertGreater(rings, 50)
        self.assertLess(rings, 450)

    def test_long_chains(self):
        steps = tuple((f"p{'abcdefghijklmnopqrstuvwxyz'[at // 26]}{'abcdefghijklmnopqrstuvwxyz'[at % 26]}",
                       f"p{'abcdefghijklmnopqrstuvwxyz'[(at + 1) // 26]}{'abcdefghijklmnopqrstuvwxyz'[(at + 1) % 26]}",
                       1) for at in range(59))
        for told in (steps, steps[::-1]):
            self.assertEqual(59, tightest(told, "paa", "pch"))
            closed = told + (("pch", "paa", -60),)
            self.assertEqual(set(range(60)), set(ring(closed)))
            self.assertTrue(is_ring(closed, ring(closed)))
            self.assertTrue(is_fitting(told + (("pch", "paa", -59),), fitting(told + (("pch", "paa", -59),))))


class SaidTest(unittest.TestCase):
    """differences_of."""

    def test_positions(self):
        one, other = ("i", 1), ("n", -1)
        for op, told in (("<=", (("i", "n", -2),)), ("<", (("i", "n", -3),)),
                         ("==", (("i", "n", -2), ("n", "i", 2)))):
            self.assertEqual(told, differences_of(FRAME, ("pos", op, one, other)))
        self.assertEqual((("n", "i", 1),), differences_of(FRAME, ("not", ("pos", "<=", one, other))))
        self.assertEqual((("n", "i", 2),), differences_of(FRAME, ("not", ("pos", "<", one, other))))
        self.assertEqual((("", "i", -5),), differences_of(FRAME, ("pos", "<=", ("", 5), ("i", 0))))
        self.assertEqual((("i", "i", -1),), differences_of(FRAME, ("pos", "<", ("i", 0), ("i", 0))))

    def test_values(self):
        cell, value = ("a", "i", 2, 1), ("x", 4)
        self.assertEqual(((("a", "i", 2), "x", 3),), differences_of(FRAME, ("val", "<=", cell, value)))
        self.assertEqual((("x", ("a", "i", 2), -4),), differences_of(FRAME, ("val", "<", value, cell)))
        self.assertEqual((("x", ("a", "i", 2), -4),), differences_of(FRAME, ("not", ("val", "<=", cell, value))))
        self.assertEqual(((("a", "", 0), "", 3), ("", ("a", "", 0), -3)),
                         differences_of(FRAME, ("val", "==", ("a", "", 0, 0), ("", 3))))

    def test_long(self):
        self.assertEqual((("i", "j", 2 * SIXTY),), differences_of(FRAME, ("pos", "<=", ("i", -SIXTY), ("j", SIXTY))))

    def test_wrong(self):
        same = ("val", "==", ("x", 0), ("", 0))
        for claim in (("not", same), ("not", ("not", same)), ("and", ()), ("or", (same,)), UPTO, ("not", UPTO),
                      ("not", ("and", ()))):
            with self.assertRaises(InvalidOperation):
                differences_of(FRAME, claim)
        for claim in JUNK + (nested(13), ("pos", "<=", ("i", True), ("j", 0)), ("pos", "<", ("x", 0), ("i", 0))):
            with self.assertRaises(InvalidClaim):
                differences_of(FRAME, claim)
        with self.assertRaises(InvalidFrame):
            differences_of(None, None)


if __name__ == "__main__":
    unittest.main()
