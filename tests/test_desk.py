"""The desk: functions, claims, changes, and going back."""

import random
import unittest

from lentcells.code.functions import Function
from lentcells.code.programs import Program
from lentcells.desk.desk import MAX_CLAIMS, MAX_FUNCTIONS, Desk
from lentcells.errors import (
    ClaimError, InvalidFunction, InvalidNumber, InvalidOperation, InvalidProgram, NothingToUndo, Refused, TooMany, UnknownName)
from lentcells.loans.tables import Table
from lentcells.pieces.kept import is_kept
from lentcells.use.contracts import stands_in
from making import ALL, BOTH, FALSE, FILL, OUTER, SPAN, TRUE, TWICE, TWO
from samples import JUNK, deep_junk

ZERO = ("", 0)
WEAK = FILL.with_notes(0, ())
SIX = tuple(FILL.called_as(called) for called in "fghklm")
COUNTS = (-1, True, False, None, "1", (), [], 10 ** 60, FILL)
MANY = (("if", TRUE, (), ()),) * 7


def plain(called="f", **passed):
    """A function with an array a and a position i."""
    return Function(called, arrays=(("full", "a", "n", "w"),), positions=("i",), **passed)


def desk_of(*functions, claims=()):
    """A desk with these functions and claims."""
    desk = Desk()
    if functions:
        desk.put(functions)
    for claim in claims:
        desk.demand(claim)
    return desk


def told(desk):
    """All that a desk tells."""
    return (desk.names, desk.claims, desk.verdicts, [desk[name] for name in desk.names], str(desk))


class PutTest(unittest.TestCase):
    """Changes of functions, and their news."""

    def test_of_the_document(self):
        desk = Desk()
        self.assertEqual((("fill", "kept"), ("twice", "kept")), desk.put((TWICE, FILL)))
        self.assertEqual(("twice",), desk.callers("fill"))
        self.assertEqual((), desk.demand(("kept", "twice")))
        self.assertEqual("desk of 2 functions, 1 claims", str(desk))
        self.assertEqual((("fill", "broken"),), desk.revise("fill", lambda function: function.with_notes(0, ())))
        self.assertEqual((("fill", "kept"),), desk.undo())
        self.assertEqual({"fill": "kept", "twice": "kept"}, desk.verdicts)
        self.assertEqual(BOTH, desk.whole())

    def test_no_functions(self):
        desk = Desk()
        self.assertEqual(((), (), {}, [], "desk of 0 functions, 0 claims"), told(desk))
        self.assertEqual(0, len(desk))
        self.assertEqual([], list(desk))
        with self.assertRaises(InvalidOperation):
            desk.whole()
        self.assertEqual(desk, Desk())

    def test_one_and_six_and_a_seventh(self):
        desk = Desk()
        self.assertEqual((("f", "kept"),), desk.put(SIX[:1]))
        self.assertEqual(tuple((called, "kept") for called in "ghklm"), desk.put(SIX[:0:-1]))
        self.assertEqual((6, tuple("fghklm")), (len(desk), desk.names))
        before = told(desk)
        for functions in ((FILL,), (FILL, *SIX), (FILL, TWICE)):
            with self.assertRaises(TooMany) as caught:
                desk.put(functions)
            self.assertEqual(6, caught.exception.bound)
        with self.assertRaises(TooMany):
            Desk().put((*SIX, FILL))
        self.assertEqual(before, told(desk))
        self.assertEqual((), desk.put(SIX))
        self.assertEqual((("f", "broken"),), desk.put((WEAK.called_as("f"),)))
        self.assertEqual((6, 8), (MAX_FUNCTIONS, MAX_CLAIMS))

    def test_in_the_place_of_elder_ones(self):
        desk = desk_of(FILL, TWICE)
        self.assertEqual((("fill", "broken"),), desk.put((WEAK,)))
        self.assertEqual(WEAK, desk["fill"])
        self.assertEqual((), desk.put((WEAK, TWICE)))
        worse = FILL.with_contract((FALSE,), (ALL,))
        self.assertEqual((("fill", "kept"), ("twice", "broken")), desk.put((worse,)))
        self.assertEqual((("fill", "faulty"), ("twice", "kept")), desk.put((with_a_fault(FILL),)))

    def test_verdicts(self):
        desk = desk_of(TWO, OUTER)
        self.assertEqual({"twice": "faulty", "two": "broken"}, desk.verdicts)
        self.assertEqual(["twice", "two"], list(desk.verdicts))

    def test_no_program(self):
        desk = Desk()
        for functions in ((TWICE,), (TWICE, TWO)):
            with self.assertRaises(InvalidProgram):
                desk.put(functions)
        self.assertEqual(Desk(), desk)
        desk.put((FILL, TWICE))
        before = told(desk)
        other = Function("fill", arrays=(("full", "a", "n", "old"),))
        for change in (lambda: desk.put((other,)), lambda: desk.take("fill"), lambda: desk.revise("fill", lambda function: other)):
            with self.assertRaises(InvalidProgram):
                change()
            self.assertEqual(before, told(desk))
        with self.assertRaises(NothingToUndo):
            desk.undo(many=2)

    def test_take(self):
        desk = desk_of(FILL, TWICE)
        self.assertEqual((("twice", None),), desk.take("twice"))
        self.assertEqual((("fill", None),), desk.take("fill"))
        self.assertEqual((0, {}), (len(desk), desk.verdicts))
        for value in JUNK + (deep_junk(), "fill", FILL):
            with self.assertRaises(UnknownName) as caught:
                desk.take(value)
            self.assertEqual(value, caught.exception.name)
        # A function that calls itself alone can go.
        desk.put((plain("f", rows=(("call", "f", ("a",), (ZERO,), ()),)),))
        self.assertEqual((("f", None),), desk.take("f"))

    def test_wrong_functions(self):
        desk = desk_of(FILL)
        for value in JUNK + (deep_junk(), FILL, [FILL], (FILL, None), (FILL, FILL), (FILL, WEAK), (BOTH,), BOTH, ("fill",), {"fill": FILL}):
            with self.assertRaises(InvalidFunction):
                desk.put(value)
        self.assertEqual(desk_of(FILL), desk)

    def test_revise(self):
        desk = desk_of(FILL, TWICE)
        seen = []
        self.assertEqual((), desk.revise("fill", lambda function: seen.append(function) or function))
        self.assertEqual([FILL], seen)
        self.assertEqual((("fill", "broken"),), desk.revise("fill", lambda function: WEAK))
        before = told(desk)
        for returned, error in ((FILL.called_as("f"), InvalidOperation), (TWICE, InvalidOperation), (None, InvalidFunction), (BOTH, InvalidFunction),
                                ((FILL,), InvalidFunction), ("fill", InvalidFunction)):
            with self.assertRaises(error):
                desk.revise("fill", lambda function, returned=returned: returned)
        with self.assertRaises(ZeroDivisionError):
            desk.revise("fill", lambda function: 1 // 0)
        with self.assertRaises(InvalidFunction):
            desk.revise("fill", lambda function: function.with_rows((), None))
        for value in JUNK + (deep_junk(), "none", FILL):
            with self.assertRaises(UnknownName) as caught:
                desk.revise(value, None)
            self.assertEqual(value, caught.exception.name)
        self.assertEqual(before, told(desk))
        self.assertEqual((("fill", "kept"),), desk.undo())
        self.assertEqual((), desk.undo())

    def test_errors_of_deciding_a_verdict(self):
        great = plain("g", after=(("pos", "<=", ("i", 5000), ZERO),))
        many = plain("h", rows=MANY)
        writes = plain("k", rows=(("write", "a", "", 0, ZERO),) * 5)
        desk = desk_of(FILL)
        before = told(desk)
        for functions, bound in (((great,), 1000), ((many,), 64), ((writes,), 4), ((writes, many, great), 1000), ((writes, many), 64),
                                 ((writes, many.called_as("l")), 4)):
            with self.assertRaises(TooMany) as caught:
                desk.put(functions)
            self.assertEqual(bound, caught.exception.bound)
            self.assertEqual(before, told(desk))
        ahead = ("and", (TRUE,) * 41 + (("val", "<", ("a", "", 0, 0), ZERO),))
        with self.assertRaises(InvalidOperation):
            desk.put((plain("f", rows=(("if", ahead, (), ()),)),))
        # What is faulty is not looked at further.
        self.assertEqual((("f", "faulty"),), desk.put((with_a_fault(plain("f", rows=MANY)),)))

    def test_verdicts_come_ahead_of_claims(self):
        desk = desk_of(FILL, TWICE, claims=(("kept", "twice"), ("kept", "fill")))
        with self.assertRaises(TooMany):
            desk.put((WEAK, plain("g", rows=MANY)))
        with self.assertRaises(Refused) as caught:
            desk.put((WEAK,))
        self.assertEqual(("kept", "fill"), caught.exception.reason)

    def test_what_a_change_changes(self):
        # [8.4]
        desk = desk_of(FILL, TWICE, TWO)
        other = FILL.with_rows((), ())
        self.assertEqual((("fill", "broken"),), desk.put((other,)))
        strong = FILL.with_contract((), (ALL, TRUE))
        self.assertTrue(stands_in(strong, FILL))
        self.assertEqual((("fill", "kept"),), desk.put((strong,)))


def with_a_fault(function):
    """The function with a row ahead of the others that uses an empty loan."""
    return Function(function.called, arrays=function.arrays, positions=function.positions, values=function.amounts, loans=(("look", "rr", function.arrays[0][2]),),
                    places=function.places, numbers=("yy",), rows=(("keep", "yy", ("rr", "", 0, 0)), *function.rows), notes=function.notes)


class ClaimsTest(unittest.TestCase):
    """Demands, and claims that hold behind each change."""

    def test_claims_that_hold(self):
        desk = desk_of(FILL, TWICE, TWO, FILL.called_as("other"))
        claims = (("kept", "fill"), ("sound", "two"), ("stands", "fill", "other"), ("calls", "twice", "fill"), ("stands", "fill", "fill"))
        for claim in claims:
            self.assertEqual((), desk.demand(claim))
        self.assertEqual(claims, desk.claims)
        for claim in claims:
            self.assertIn(claim, desk)

    def test_claims_that_do_not(self):
        desk = desk_of(WEAK, TWICE, TWO)
        for claim in (("kept", "fill"), ("kept", "two"), ("stands", "two", "fill"), ("calls", "fill", "twice"), ("calls", "fill", "fill")):
            with self.assertRaises(Refused) as caught:
                desk.demand(claim)
            self.assertEqual(claim, caught.exception.reason)
            self.assertNotIn(claim, desk)
        faulty = desk_of(TWO, OUTER)
        for claim in (("sound", "twice"), ("kept", "twice")):
            with self.assertRaises(Refused):
                faulty.demand(claim)
        self.assertEqual((), desk.claims)

    def test_what_is_no_claim(self):
        desk = desk_of(FILL, TWICE, claims=(("kept", "fill"),))
        wrong = (("kept",), ("kept", "fill", "fill"), ("stands", "fill"), ("calls", "twice", "fill", "fill"), ("Kept", "fill"), ("kept", "Fill"), ("kept", ""),
                 ("kept", "abcdefghi"), ["kept", "fill"], ("kept", ("fill",)), ("kept", None), (("kept",), "fill"), ("faulty", "fill"), "kept fill", ("kept", FILL),
                 ("stands", "fill", 1), (1, "fill"), ("kept", True))
        for value in JUNK + (deep_junk(), *wrong):
            for call in (desk.demand, desk.waive):
                with self.assertRaises(InvalidOperation):
                    call(value)
            self.assertNotIn(value, desk)
        with self.assertRaises(InvalidOperation):
            desk.demand(("kept", "fill"))
        with self.assertRaises(InvalidOperation):
            desk.waive(("kept", "twice"))
        self.assertEqual((), desk.waive(("kept", "fill")))
        with self.assertRaises(InvalidOperation):
            desk.waive(("kept", "fill"))

    def test_what_is_not_there(self):
        desk = desk_of(FILL)
        for claim, name in ((("kept", "none"), "none"), (("stands", "fill", "none"), "none"), (("stands", "one", "none"), "one"), (("calls", "some", "fill"), "some")):
            with self.assertRaises(UnknownName) as caught:
                desk.demand(claim)
            self.assertEqual(name, caught.exception.name)

    def test_eight_and_a_ninth(self):
        desk = desk_of(FILL, TWICE)
        claims = [(word, name) for word in ("kept", "sound") for name in ("fill", "twice")]
        claims += [("stands", name, name) for name in ("fill", "twice")] + [("calls", "twice", "fill")]
        for claim in claims:
            desk.demand(claim)
        desk.put((FILL.called_as("g"),))
        desk.demand(("kept", "g"))
        self.assertEqual(8, len(desk.claims))
        for claim in (("sound", "g"), ("calls", "g", "g")):
            with self.assertRaises(TooMany) as caught:
                desk.demand(claim)
            self.assertEqual(8, caught.exception.bound)
        # Other errors come first.
        with self.assertRaises(InvalidOperation):
            desk.demand(("kept", "g"))
        with self.assertRaises(UnknownName):
            desk.demand(("kept", "none"))
        desk.waive(("kept", "g"))
        self.assertEqual((), desk.demand(("sound", "g")))
        self.assertEqual((*claims, ("sound", "g")), desk.claims)

    def test_which_claim_is_told(self):
        desk = desk_of(FILL, TWICE, FILL.called_as("g"), claims=(("sound", "fill"), ("stands", "fill", "g"), ("kept", "twice"), ("kept", "fill"), ("calls", "twice", "fill")))
        before = told(desk)

        def refused(change):
            with self.assertRaises(Refused) as caught:
                change()
            self.assertEqual(before, told(desk))
            return caught.exception.reason

        self.assertEqual(("kept", "fill"), refused(lambda: desk.put((WEAK,))))
        self.assertEqual(("kept", "twice"), refused(lambda: desk.put((FILL.with_contract((), ()), FILL.with_contract((), ()).called_as("g"),
                                                                         TWICE.with_contract((), (("val", "==", ("b", "", 0, 0), ("", 7)),))))))
        self.assertEqual(("stands", "fill", "g"), refused(lambda: desk.put((FILL.with_contract((FALSE,), (ALL,)),))))
        self.assertEqual(("sound", "fill"), refused(lambda: desk.put((with_a_fault(FILL),))))
        self.assertEqual(("calls", "twice", "fill"), refused(lambda: desk.put((TWICE.with_rows(TWICE.rows[2:], ()),))))
        self.assertEqual(("stands", "fill", "g"), refused(lambda: desk.take("g")))
        self.assertEqual(("kept", "twice"), refused(lambda: desk.take("twice")))
        desk.waive(("kept", "twice"))
        before = told(desk)
        self.assertEqual(("calls", "twice", "fill"), refused(lambda: desk.take("twice")))

    def test_a_claim_that_cannot_be_decided(self):
        great = ("pos", "<=", ("i", 5000), ("i", 0))
        base = plain("f", before=(great,))
        desk = desk_of(base, plain("g"))
        with self.assertRaises(TooMany) as caught:
            desk.demand(("stands", "f", "g"))
        self.assertEqual(1000, caught.exception.bound)
        desk = desk_of(plain("f"), plain("g"), claims=(("stands", "f", "g"),))
        with self.assertRaises(TooMany):
            desk.put((base,))
        self.assertEqual(plain("f"), desk["f"])


class BackTest(unittest.TestCase):
    """Undo and redo, during, and twins."""

    def steps(self):
        """A desk behind some changes, and all it told on the way."""
        desk = Desk()
        seen = [told(desk)]
        for change in (lambda: desk.put((FILL, TWICE)), lambda: desk.demand(("kept", "twice")), lambda: desk.put((FILL,)), lambda: desk.put((WEAK, TWO)),
                       lambda: desk.take("two"), lambda: desk.waive(("kept", "twice"))):
            change()
            seen.append(told(desk))
        return desk, seen

    def test_undo_and_redo(self):
        desk, seen = self.steps()
        for many in (0, 1, 2, 6):
            desk, seen = self.steps()
            desk.undo(many=many)
            self.assertEqual(seen[6 - many], told(desk))
            for back in (many + 1, 10 ** 50):
                with self.assertRaises(NothingToUndo) as caught:
                    desk.redo(many=back)
                self.assertEqual(back, caught.exception.asked)
            self.assertEqual(seen[6 - many], told(desk))
            desk.redo(many=many)
            self.assertEqual(seen[6], told(desk))
        desk.undo(many=6)
        for at in range(1, 7):
            desk.redo()
            self.assertEqual(seen[at], told(desk))
        for many in (7, 10 ** 59):
            with self.assertRaises(NothingToUndo) as caught:
                desk.undo(many=many)
            self.assertEqual(many, caught.exception.asked)

    def test_news(self):
        desk, seen = self.steps()
        self.assertEqual((), desk.undo(many=0))
        self.assertEqual((), desk.undo())
        self.assertEqual((("two", "broken"),), desk.undo())
        self.assertEqual((("fill", "kept"), ("two", None)), desk.undo())
        self.assertEqual((("fill", None), ("twice", None)), desk.undo(many=3))
        self.assertEqual((("fill", "broken"), ("twice", "kept")), desk.redo(many=6))
        self.assertEqual((("fill", "kept"),), desk.undo(many=3))

    def test_redo_behind_another_change(self):
        desk, seen = self.steps()
        desk.undo(many=3)
        # Also a change by which all stays equal.
        desk.put((FILL,))
        with self.assertRaises(NothingToUndo):
            desk.redo()
        self.assertEqual((), desk.redo(many=0))
        self.assertEqual((), desk.undo())
        self.assertEqual((), desk.redo())
        desk.undo(many=2)
        for error, change in ((Refused, lambda: desk.take("twice")), (InvalidFunction, lambda: desk.put(())), (UnknownName, lambda: desk.take("none"))):
            with self.assertRaises(error):
                change()
        # What was refused is no change.
        self.assertEqual((), desk.redo(many=2))

    def test_wrong_numbers(self):
        desk, seen = self.steps()
        for call in (desk.undo, desk.redo):
            for value in COUNTS:
                with self.assertRaises(InvalidNumber) as caught:
                    call(many=value)
                self.assertIs(value, caught.exception.number)
            with self.assertRaises(TypeError):
                call(1)
        with self.assertRaises(NothingToUndo) as caught:
            Desk().undo()
        self.assertEqual(1, caught.exception.asked)

    def test_during(self):
        desk, seen = self.steps()
        desk.undo(many=2)

        def changes(same):
            self.assertIs(desk, same)
            same.undo()
            same.put((FILL.called_as("g"),))
            same.demand(("kept", "g"))
            return told(same)

        within = desk.during(changes)
        self.assertEqual(("fill", "g", "twice"), within[0])
        self.assertEqual(seen[4], told(desk))
        desk.redo(many=2)
        self.assertEqual(seen[6], told(desk))
        desk.undo(many=6)
        self.assertEqual(seen[0], told(desk))

    def test_during_with_errors(self):
        desk, seen = self.steps()

        def wrong(same):
            same.undo(many=5)
            same.take("twice")

        with self.assertRaises(Refused):
            desk_of(FILL, TWICE, claims=(("kept", "twice"),)).during(lambda same: same.take("twice"))
        self.assertIsNone(desk.during(wrong))
        self.assertEqual(seen[6], told(desk))

        def fails(same):
            same.undo(many=6)
            raise KeyError("x")

        with self.assertRaises(KeyError):
            desk.during(fails)
        self.assertEqual(seen[6], told(desk))
        with self.assertRaises(NothingToUndo):
            desk.redo()
        self.assertEqual(3, desk.during(lambda same: same.during(lambda inner: inner.undo(many=6) and 3)))
        self.assertEqual(seen[6], told(desk))

    def test_twins(self):
        desk, seen = self.steps()
        desk.undo(many=2)
        twin = desk.twin()
        self.assertEqual(desk, twin)
        twin.undo(many=4)
        twin.put((TWO,))
        self.assertEqual(seen[4], told(desk))
        self.assertEqual(("two",), twin.names)
        desk.redo(many=2)
        self.assertEqual(seen[6], told(desk))
        other = desk_of(FILL).twin()
        self.assertEqual((("fill", None),), other.undo())


class DeskTest(unittest.TestCase):
    """The desk as an object."""

    def test_functions(self):
        desk = desk_of(TWICE, FILL, TWO)
        self.assertEqual((FILL, TWICE, TWO), (desk["fill"], desk["twice"], desk["two"]))
        self.assertEqual(["fill", "twice", "two"], list(desk))
        self.assertEqual([("twice",), (), ()], [desk.callers(name) for name in desk])
        self.assertEqual(Program((TWO, TWICE, FILL)), desk.whole())
        for value in JUNK + (deep_junk(), "none", FILL):
            for call in (desk.callers, lambda name: desk[name]):
                with self.assertRaises(UnknownName) as caught:
                    call(value)
                self.assertEqual(value, caught.exception.name)

    def test_membership(self):
        desk = desk_of(FILL, claims=(("kept", "fill"),))
        self.assertIn("fill", desk)
        self.assertIn(("kept", "fill"), desk)
        for value in JUNK + (deep_junk(), "twice", ("sound", "fill"), ["kept", "fill"], FILL, ("kept", ["fill"]), ("kept", {})):
            self.assertNotIn(value, desk)

    def test_equality(self):
        one, other = desk_of(FILL, TWICE), Desk()
        other.put((FILL,))
        self.assertNotEqual(one, other)
        other.put((TWICE,))
        self.assertEqual(one, other)
        one.demand(("kept", "fill"))
        one.demand(("kept", "twice"))
        self.assertNotEqual(one, other)
        other.demand(("kept", "twice"))
        other.demand(("kept", "fill"))
        self.assertNotEqual(one, other)
        other.waive(("kept", "twice"))
        other.demand(("kept", "twice"))
        self.assertEqual(one, other)
        other.put((FILL.with_contract((), (ALL, TRUE)),))
        self.assertNotEqual(one, other)
        for value in JUNK + (deep_junk(), BOTH):
            self.assertFalse(one == value)
            self.assertTrue(one != value)

    def test_what_is_told_is_no_way_in(self):
        desk = desk_of(FILL, TWICE)
        desk.verdicts["fill"] = "broken"
        desk.verdicts.pop("twice")
        self.assertEqual({"fill": "kept", "twice": "kept"}, desk.verdicts)
        functions = (FILL, TWICE)
        desk.put(functions)
        self.assertEqual((FILL, TWICE), functions)

    def test_texts(self):
        self.assertEqual("desk of 6 functions, 1 claims", str(desk_of(*SIX, claims=(("kept", "g"),))))


class PlainDesk:
    """A desk by the words of the document, which decides all anew behind each change."""

    def __init__(self):
        self.functions, self.claims = {}, ()

    def verdicts(self, functions):
        if not functions:
            return {}
        program = Program(tuple(functions.values()))
        return {called: "faulty" if not Table(program, called).is_sound else "kept" if is_kept(program, called) else "broken"
                for called in sorted(functions)}

    def holds(self, functions, verdicts, claim):
        if any(name not in functions for name in claim[1:]):
            return False
        if claim[0] in ("kept", "sound"):
            return verdicts[claim[1]] == "kept" if claim[0] == "kept" else verdicts[claim[1]] != "faulty"
        if claim[0] == "stands":
            return stands_in(functions[claim[1]], functions[claim[2]])
        return claim[2] in functions[claim[1]].callees

    def change(self, functions, claims):
        old, new = self.verdicts(self.functions), self.verdicts(functions)
        for claim in claims:
            if not self.holds(functions, new, claim):
                raise Refused(claim)
        self.functions, self.claims = functions, claims
        return tuple((name, new.get(name)) for name in sorted({*old, *new}) if old.get(name) != new.get(name))


class PlainTest(unittest.TestCase):
    """Random changes beside a plain desk."""

    PARTS = (FILL, WEAK, FILL.with_notes(0, SPAN), FILL.with_contract((FALSE,), (ALL,)), FILL.with_contract((), ()), TWICE, TWICE.with_contract((), (TRUE,)),
             TWICE.with_rows(TWICE.rows[2:], ()), with_a_fault(FILL), TWO, OUTER, FILL.called_as("other"),
             FILL.called_as("other").with_contract((), (ALL, TRUE)), plain("deep", rows=(("call", "deep", ("a",), (("i", 0),), ()),)), plain("many", rows=MANY))
    NAMES = ("fill", "twice", "two", "other", "deep")

    def test_random_changes(self):
        seen = {}
        for seed in range(25):
            rand = random.Random(seed)
            desk, plainly = Desk(), PlainDesk()
            for _ in range(25):
                before = told(desk)
                kind, mine, theirs = self.change(rand, desk, plainly)
                one, other = outcome_of(mine), outcome_of(theirs)
                self.assertEqual(other, one, (seed, kind))
                self.assertEqual((tuple(sorted(plainly.functions)), plainly.claims), (desk.names, desk.claims))
                self.assertEqual(plainly.verdicts(plainly.functions), desk.verdicts)
                if one[0] == "error":
                    self.assertEqual(before, told(desk))
                seen[(kind, one[0])] = seen.get((kind, one[0]), 0) + 1
        self.assertGreater(len(seen), 8, seen)

    def change(self, rand, desk, plainly):
        kind = rand.choice(("put", "put", "take", "revise", "demand", "waive"))
        functions, claims = dict(plainly.functions), plainly.claims
        if kind in ("put", "revise"):
            part = rand.choice(self.PARTS)
            functions[part.called] = part
            if kind == "put" or part.called not in desk:
                return "put", lambda: desk.put((part,)), lambda: plainly.change(functions, claims)
            return kind, lambda: desk.revise(part.called, lambda function: part), lambda: plainly.change(functions, claims)
        name, other = rand.choice(self.NAMES), rand.choice(self.NAMES)
        if kind == "take":
            known = name in functions
            functions.pop(name, None)
            return kind, lambda: desk.take(name), lambda: plainly.change(functions, claims) if known else fail(UnknownName, name)
        claim = rand.choice((("kept", name), ("sound", name), ("stands", name, other), ("calls", name, other)))
        if kind == "waive":
            rest = tuple(part for part in claims if part != claim)
            return kind, lambda: desk.waive(claim), lambda: plainly.change(functions, rest) if claim in claims else fail(InvalidOperation, "")
        return kind, lambda: desk.demand(claim), lambda: self.demand(plainly, functions, claims, claim)

    def demand(self, plainly, functions, claims, claim):
        if claim in claims:
            raise InvalidOperation("")
        for name in claim[1:]:
            if name not in functions:
                raise UnknownName(name)
        if len(claims) == 8:
            raise TooMany(8)
        return plainly.change(functions, (*claims, claim))


def fail(error, passed):
    raise error(passed)


def outcome_of(change):
    """What a change returns, or its error."""
    try:
        return ("told", change())
    except (ClaimError, UnknownName, TooMany, Refused) as error:
        passed = {key: value for key, value in vars(error).items()}
        return ("error", error.__class__, passed)


if __name__ == "__main__":
    unittest.main()
