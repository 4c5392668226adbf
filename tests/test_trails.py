"""Trails: walks that grow, and walks to rows, facts and faults."""

import itertools
import unittest

from lentcells.errors import InvalidNumber, InvalidOperation, InvalidProgram, NothingToUndo, TooMany, UnknownName
from lentcells.loans.facts import behind, faults_of, first_state
from lentcells.loans.trails import Trail, faulty_walk, is_faulty_walk, is_walk, walk_to
from making import BOTH, FILL, LENT, SHARED, TRUE, Maker, one_function
from samples import JUNK, deep_junk
from test_tables import program, reached

ZERO = ("", 0)
# Row 2 has a fault only behind a second coming of the while.
SECOND = program(("lend", "r", "a"), ("while", TRUE, (("write", "r", "", 0, ZERO), ("write", "a", "", 0, ZERO))), notes=((),))


class WalkTest(unittest.TestCase):
    """What walks are, and the ones with the fewest rows."""

    def test_walks(self):
        for value in ((), (0,), (0, 1), (0, 1, 2, 3, 4), (0, 1, 2, 3, 4, 1), (0, 1, 2, 3, 4, 1, 2, 3, 4, 1, 2)):
            self.assertIs(is_walk(LENT, "f", value), True)
        self.assertIs(is_walk(SECOND, "f", (0, 1, 2)), True)
        self.assertIs(is_walk(one_function(), "f", ()), True)
        empty = program(("while", TRUE, ()), ("write", "a", "", 0, ZERO), notes=((),))
        self.assertIs(is_walk(empty, "f", (0, 0, 0, 1)), True)

    def test_no_walks(self):
        for value in ((1,), (0, 2), (0, 1, 3), (0, 1, 5), (5,), (0, 1, 2, 4), (0, 0), (0, 1, 2, 3, 4, 0), (True,), (False,), (0, True),
                      [0], ([0],), ((0,),), (0, None), (-1,), (0, 1, 10 ** 70), "", "0"):
            self.assertIs(is_walk(LENT, "f", value), False, value)
            self.assertIs(is_faulty_walk(LENT, "f", value), False, value)
        self.assertIs(is_walk(one_function(), "f", (0,)), False)
        for value in JUNK + (deep_junk(), LENT):
            if value != ():
                self.assertIs(is_walk(LENT, "f", value), False)
            self.assertIs(is_faulty_walk(LENT, "f", value), False)

    def test_400_rows(self):
        around = (0,) + (1, 2, 3, 4) * 100
        self.assertIs(is_walk(LENT, "f", around[:400]), True)
        self.assertIs(is_walk(LENT, "f", around), False)
        self.assertEqual(400, len(Trail(LENT, "f", around[:400])))
        with self.assertRaises(InvalidOperation):
            Trail(LENT, "f", around)
        faulty = (0,) + (1, 2, 3) * 134
        self.assertIs(is_faulty_walk(SECOND, "f", faulty[:399]), True)
        self.assertIs(is_faulty_walk(SECOND, "f", faulty[:402]), False)

    def test_fewest_rows(self):
        for seed in range(40):
            maker = Maker(seed)
            made = maker.program(maker.random.choice((1, 2)), maker.random.choice((4, 8, 14)))
            for called in made.names:
                self.check_fewest(made, called)

    def check_fewest(self, made, called):
        best, faulty = {}, []
        for (row, state), many in reached(made, called).items():
            for fact in (None, *state):
                best[(row, fact)] = min(best.get((row, fact), many), many)
            if faults_of(made, called, row, state):
                faulty.append(many + 1)
        for (row, fact), many in best.items():
            walk = walk_to(made, called, row, fact=fact)
            trail = Trail(made, called, walk)
            self.assertEqual((many, True), (len(walk), row in trail.nexts))
            self.assertTrue(fact is None or fact in trail.facts)
        walk = faulty_walk(made, called)
        self.assertEqual(min(faulty) if faulty else None, None if walk is None else len(walk))
        self.assertTrue(walk is None or is_faulty_walk(made, called, walk))

    def test_walk_to(self):
        self.assertEqual([(), (0,), (0, 1), (0, 1, 2), (0, 1, 2, 3), (0, 1)], [walk_to(LENT, "f", row) for row in range(6)])
        self.assertEqual((), walk_to(LENT, "f", 0, fact=("empty", "s")))
        self.assertEqual((0, 1, 2, 3, 4, 1), walk_to(LENT, "f", 5, fact=("held", "s")))
        self.assertEqual((), walk_to(one_function(), "f", 0))
        for row, fact in ((0, ("held", "r")), (1, ("empty", "r")), (4, ("into", "r", "s")), (5, ("ended", "r"))):
            with self.assertRaises(InvalidOperation):
                walk_to(LENT, "f", row, fact=fact)

    def test_wrong_arguments_of_walk_to(self):
        for value in (6, -1, 10 ** 70, True, None, "0", (), LENT):
            with self.assertRaises(InvalidNumber) as caught:
                walk_to(LENT, "f", value, fact=())
            self.assertEqual(value, caught.exception.number)
        for value in JUNK[1:] + (deep_junk(), ("held", "p"), ["held", "r"], ("into", "r", "r")):
            with self.assertRaises(InvalidOperation):
                walk_to(LENT, "f", 1, fact=value)

    def test_faults(self):
        self.assertEqual((0, 1, 2, 3, 1, 2), faulty_walk(SECOND, "f"))
        self.assertIsNone(faulty_walk(LENT, "f"))
        self.assertIsNone(faulty_walk(one_function(), "f"))
        self.assertEqual((0, 1), faulty_walk(SHARED, "twice"))
        self.assertIs(is_faulty_walk(SHARED, "twice", (0, 1)), True)
        for value in ((), (0,), (1,), (0, 1, 2), (0, True)):
            self.assertIs(is_faulty_walk(SHARED, "twice", value), False)

    def test_a_fault_ahead_of_the_last_row(self):
        for walk, last in (((0, 1, 2, 3, 1, 2), True), ((0, 1, 2, 3, 1, 2, 3), False), ((0, 1, 2, 3, 1, 2, 3, 1), False),
                           ((0, 1, 2, 3, 1, 2, 3, 1, 2), True), ((0, 1, 2, 3, 1), False), ((0, 1, 2), False)):
            self.assertIs(is_faulty_walk(SECOND, "f", walk), last)


class TrailTest(unittest.TestCase):
    """Walks that grow."""

    def setUp(self):
        self.trail = Trail(SECOND, "f")

    def test_go(self):
        trail = self.trail
        self.assertEqual(((), (0,), first_state(SECOND, "f"), ()), (trail.walk, trail.nexts, trail.facts, trail.faults))
        self.assertEqual([()] * 5, [trail.go(row) for row in (0, 1, 2, 3, 1)])
        self.assertEqual((2, 4), trail.nexts)
        self.assertEqual((("ended", "r"),), trail.go(2))
        self.assertEqual(((5, ("ended", "r")),), trail.faults)
        self.assertEqual([(), ()], [trail.go(3), trail.go(1)])
        self.assertEqual((("ended", "r"),), trail.go(2))
        self.assertEqual(((5, ("ended", "r")), (8, ("ended", "r"))), trail.faults)
        self.assertEqual(((0, 1, 2, 3, 1, 2, 3, 1, 2), 9, "f: 0 1 2 3 1 2 3 1 2"), (trail.walk, len(trail), str(trail)))
        self.assertEqual("f: -", str(Trail(SECOND, "f")))

    def test_the_end(self):
        self.assertEqual((0,), Trail(one_function(), "f").nexts)
        trail = Trail(BOTH, "fill", (0,))
        self.assertEqual((1, 3), trail.nexts)
        for made, row in ((Trail(one_function(), "f"), 0), (trail, 3)):
            with self.assertRaises(InvalidNumber):
                made.go(row)
        one = Trail(one_function(rows=(("call", "f", (), (), ()),)), "f")
        self.assertEqual((), one.go(0))
        self.assertEqual((1,), one.nexts)
        for row in (1, True, 0):
            with self.assertRaises(InvalidNumber):
                one.go(row)

    def test_rows_that_cannot_come(self):
        for value in (1, 2, 4, 5, -1, 10 ** 70, True, False, None, "0", (0,), [0], LENT):
            with self.assertRaises(InvalidNumber) as caught:
                self.trail.go(value)
            self.assertEqual(value, caught.exception.number)
        self.assertEqual((), self.trail.walk)

    def test_400_rows(self):
        trail = Trail(LENT, "f", (0,) + (1, 2, 3, 4) * 99 + (1, 2, 3))
        self.assertEqual(400, len(trail))
        with self.assertRaises(TooMany) as caught:
            trail.go(4)
        self.assertEqual(400, caught.exception.bound)
        with self.assertRaises(InvalidNumber):
            trail.go(3)
        trail.undo()
        trail.go(3)
        self.assertEqual(400, len(trail))

    def test_undo(self):
        for row in (0, 1, 2, 3, 1, 2):
            self.trail.go(row)
        self.assertEqual((0, 1, 2, 3, 1, 2), self.trail.undo(many=0))
        self.assertEqual((0, 1, 2, 3, 1), self.trail.undo())
        self.assertEqual(((), (2, 4)), (self.trail.faults, self.trail.nexts))
        for many in (6, 10 ** 59):
            with self.assertRaises(NothingToUndo) as caught:
                self.trail.undo(many=many)
            self.assertEqual(many, caught.exception.asked)
        for many in (-1, True, None, "1", [], 10 ** 60):
            with self.assertRaises(InvalidNumber) as caught:
                self.trail.undo(many=many)
            self.assertEqual(many, caught.exception.number)
        self.assertEqual((0, 1), self.trail.undo(many=3))
        self.assertEqual(behind(SECOND, "f", 0, first_state(SECOND, "f")), self.trail.facts)
        self.assertEqual((), self.trail.undo(many=2))
        self.assertEqual(Trail(SECOND, "f"), self.trail)
        self.assertEqual((), self.trail.go(0))

    def test_twins(self):
        self.trail.go(0)
        twin = self.trail.twin()
        self.assertEqual(self.trail, twin)
        twin.go(1)
        self.assertEqual(((0,), (0, 1)), (self.trail.walk, twin.walk))
        self.assertNotEqual(self.trail, twin)
        self.trail.undo()
        self.assertEqual((2, 4), twin.nexts)

    def test_equality(self):
        self.assertEqual(Trail(LENT, "f", (0, 1)), Trail(LENT, "f", (0, 1)))
        self.assertNotEqual(Trail(LENT, "f", (0, 1)), Trail(LENT, "f", (0,)))
        self.assertNotEqual(Trail(LENT, "f"), Trail(SECOND, "f"))
        self.assertNotEqual(Trail(BOTH, "fill"), Trail(BOTH, "twice"))
        for value in JUNK + (LENT, (0, 1)):
            self.assertNotEqual(Trail(LENT, "f", (0, 1)), value)
        with self.assertRaises(TypeError):
            iter(self.trail)

    def test_wrong_arguments(self):
        for value in JUNK + (deep_junk(), FILL):
            for call in (lambda: Trail(value, None, None), lambda: is_walk(value, None, None), lambda: walk_to(value, None, None),
                         lambda: faulty_walk(value, None), lambda: is_faulty_walk(value, None, None)):
                with self.assertRaises(InvalidProgram):
                    call()
            for call in (lambda: Trail(LENT, value, None), lambda: is_walk(LENT, value, None), lambda: walk_to(LENT, value, None),
                         lambda: faulty_walk(LENT, value), lambda: is_faulty_walk(LENT, value, None)):
                with self.assertRaises(UnknownName):
                    call()
            if value != ():
                with self.assertRaises(InvalidOperation):
                    Trail(LENT, "f", value)
        for value in ((1,), (0, 5), (0, 1, 5), [0], (True,)):
            with self.assertRaises(InvalidOperation):
                Trail(LENT, "f", value)

    def test_loans_of_one_parameter(self):
        # [4.8], and that a full argument is of another parameter than each other one.
        pairs = calls = 0
        for seed in range(250):
            maker = Maker(seed)
            made = maker.program(2, 14)
            for function in made:
                trail = Trail(made, function.called)
                for row in maker.walk(made, function.called, 25):
                    calls += self.check_arguments(made, function, row, trail.facts)
                    if trail.go(row):
                        break
                    pairs += self.check_loans(function, trail.facts)
        self.assertGreater(min(pairs, calls), 50)

    def check_loans(self, function, facts):
        parameters = [told[1] for told in function.arrays]
        good = [told[1] for told in function.loans if ("held", told[1]) in facts and ("ended", told[1]) not in facts]
        pairs = [(one, other) for one, other in itertools.combinations(good, 2)
                 if any(("into", one, word) in facts and ("into", other, word) in facts for word in parameters)]
        for one, other in pairs:
            looks = function.way_of(one) == function.way_of(other) == "look"
            self.assertTrue(looks or ("into", one, other) in facts or ("into", other, one) in facts)
        return len(pairs)

    def check_arguments(self, made, function, row, facts):
        called = function.row(row)
        if called[0] != "call" or faults_of(made, function.called, row, facts):
            return 0
        parameters = [told[1] for told in function.arrays]
        ways = [told[0] for told in made[called[1]].arrays]
        roots = [[word for word in parameters if word == array or ("into", array, word) in facts] for array in called[2]]
        self.assertTrue(all(len(found) == 1 for found in roots))
        for (one, way), (other, other_way) in itertools.combinations(zip(roots, ways), 2):
            self.assertTrue(one != other or (way, other_way) == ("look", "look"))
        return 1

    def test_what_is_false(self):
        # [4.10]: a loan need not end with the one from which it was lent, and a function that only looks can have faults.
        made = program(("lend", "r", "a"), ("lend", "t", "r"), ("if", ("val", "<", ("a", "", 0, 0), ZERO), (), ()))
        facts = Trail(made, "f", (0, 1, 2)).facts
        self.assertEqual((True, False), (("ended", "r") in facts, ("ended", "t") in facts))
        looking = program(("if", ("val", "<", ("t", "", 0, 0), ZERO), (), ()))
        self.assertEqual((0,), faulty_walk(looking, "f"))

    def test_beside_facts_row_by_row(self):
        for seed in range(40, 60):
            maker = Maker(seed)
            made = maker.program(2, 12)
            for called in made.names:
                walk = maker.walk(made, called, 20)
                trail, state, faults = Trail(made, called), first_state(made, called), []
                for at, row in enumerate(walk):
                    found = faults_of(made, called, row, state)
                    self.assertEqual(found, trail.go(row))
                    faults += [(at, fault) for fault in found]
                    state = behind(made, called, row, state)
                    self.assertEqual((state, tuple(faults)), (trail.facts, trail.faults))
                self.assertEqual(Trail(made, called, walk), trail)
                while len(trail) > 0:
                    trail.undo(many=min(len(trail), maker.random.choice((1, 2, 3))))
                    again = Trail(made, called, trail.walk)
                    self.assertEqual((again.facts, again.faults, again.nexts), (trail.facts, trail.faults, trail.nexts))


if __name__ == "__main__":
    unittest.main()
