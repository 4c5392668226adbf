"""Part 2b: questions."""

import random
import unittest

from lentcells.base.frames import Frame
from lentcells.errors import (
    InvalidClaim, InvalidFrame, InvalidNumber, InvalidOperation, InvalidQuestion, InvalidSituation)
from lentcells.solve.questions import Question
from lentcells.world.situations import Situation
from samples import (
    BROKEN, FRAME, JUNK, LONG, NEXT, SHOWN, SIXTY, UPTO, WIDE, Maker, deep_junk, nested, with_trues)

NO = ("or", ())
YES = ("and", ())
ORDER = ("pos", "<=", ("i", 0), ("j", 0))


def upto(term, own="k", cell=("x", 0)):
    """An all over the cells up to a term."""
    guard = ("and", (("pos", "<=", ("", 0), (own, 0)), ("pos", "<=", (own, 0), term)))
    return ("all", (own,), guard, ("val", "<=", ("a", own, 0, 0), cell))


def pairs(low, high):
    """An all over pairs of cells between two terms."""
    guard = ("and", (("pos", "<=", low, ("p", 0)), ("pos", "<=", ("p", 0), ("q", 0)), ("pos", "<=", ("q", 0), high)))
    return ("all", ("p", "q"), guard, ("val", "<=", ("a", "p", 0, 0), ("a", "q", 0, 0)))


class MadeTest(unittest.TestCase):
    """What a question is."""

    def test_properties(self):
        self.assertEqual([FRAME, (UPTO, NEXT.claims[1]), upto(("i", 1))], [NEXT.frame, NEXT.claims, NEXT.goal])
        self.assertEqual((("pos", "<=", ("", 0), ("n", 0)), *NEXT.claims, ("not", NEXT.goal)), NEXT.facts)
        self.assertEqual((("pos", "<=", ("", 0), ("n", 0)), ("pos", "<=", ("", 0), ("m", 0)), YES, ("not", NO)),
                         Question(WIDE, (YES,), NO).facts)
        self.assertEqual((("not", YES),), Question(Frame((), (), ()), (), YES).facts)

    def test_facts_have_no_limit(self):
        self.assertEqual(("not", nested(12)), Question(FRAME, (), nested(12)).facts[-1])

    def test_texts(self):
        self.assertEqual("question of 2 given, 6 members, few 12", str(NEXT))
        self.assertEqual("question of 0 given, 3 members, few 9", str(Question(FRAME, (), NO)))
        self.assertEqual("question of 1 given, 2 members, few 0", str(Question(Frame((), (), ()), (YES,), NO)))

    def test_lengths_and_limits(self):
        self.assertEqual([2, 1, 0, 40], [len(NEXT), len(BROKEN), len(Question(FRAME, (), NO)),
                                         len(Question(FRAME, (ORDER,) * 40, NO))])
        with self.assertRaises(InvalidQuestion):
            Question(FRAME, (ORDER,) * 41, NO)

    def test_wrong(self):
        for given in (None, [], [ORDER], ORDER, (None,), (nested(13),), (ORDER, ["not", ORDER]), {}, "", FRAME,
                      (deep_junk(),), (("pos", "<", ("i", LONG), ("j", 0)),)):
            with self.assertRaises(InvalidQuestion):
                Question(FRAME, given, NO)
        for wanted in JUNK + (nested(13), deep_junk(), *with_trues(UPTO)):
            with self.assertRaises(InvalidQuestion):
                Question(FRAME, (), wanted)
        for frame in (None, SHOWN, NEXT, str(FRAME)):
            with self.assertRaises(InvalidFrame):
                Question(frame, None, None)

    def test_equality(self):
        self.assertTrue(NEXT == Question(FRAME, NEXT.claims, NEXT.goal))
        self.assertFalse(NEXT != Question(FRAME, NEXT.claims, NEXT.goal))
        for other in (BROKEN, Question(FRAME, NEXT.claims[::-1], NEXT.goal), NEXT.wanting(NO), *JUNK[:-1], str(NEXT),
                      Question(FRAME.with_names(values=("y",)), NEXT.claims, NEXT.goal)):
            self.assertFalse(NEXT == other)
            self.assertTrue(NEXT != other)

    def test_questions_never_change(self):
        for name in ("frame", "claims", "goal", "members", "fresh", "few", "facts"):
            with self.assertRaises(AttributeError):
                setattr(NEXT, name, ())
        with self.assertRaises(TypeError):
            iter(NEXT)


class MembersTest(unittest.TestCase):
    """members, fresh and few."""

    def members(self, given, wanted, frame=FRAME):
        question = Question(frame, given, wanted)
        always = [("", -1), ("", 0)] + [(length, 0) for length in frame.lengths]
        self.assertEqual(sorted(set(question.members)), list(question.members))
        self.assertEqual(sorted(always), [term for term in question.members if term in always])
        return [term for term in question.members if term not in always], question.fresh, question.few

    def test_nothing(self):
        self.assertEqual(([], (), 9), self.members((), NO))
        self.assertEqual(([], (), 12), self.members((), NO, WIDE))
        self.assertEqual(([], (), 0), self.members((), NO, Frame((), (), ("x",))))
        self.assertEqual(([], (), 9), self.members((ORDER,), ORDER))

    def test_cells(self):
        atom = ("val", "<", ("a", "i", -2, 9), ("a", "", 3, 0))
        self.assertEqual(([("", 3), ("i", -2)], (), 21), self.members((atom,), NO))
        self.assertEqual(([("", 3), ("i", -2)], (), 21), self.members((), ("not", atom)))
        self.assertEqual(([("n", -1)], (), 9), self.members((("or", (("val", "<", ("a", "n", -1, 0), ("x", 0)),)),),
                                                            NO))

    def test_positive(self):
        self.assertEqual(([("i", 0)], (), 9), self.members((UPTO,), NO))
        self.assertEqual(([("i", 0)], (), 9), self.members((), ("not", UPTO)))
        self.assertEqual(([("i", 0)], (), 9), self.members((("not", ("not", UPTO)),), NO))
        self.assertEqual(([("i", 0)], (), 9), self.members((), ("or", (("and", (("not", UPTO),)),))))
        self.assertEqual(([("i", 0), ("j", 2)], (), 15), self.members((("and", (UPTO, upto(("j", 2)))),), NO))
        self.assertEqual(([("i", 1), ("j", -2)], (), 15), self.members((pairs(("i", 1), ("j", -2)),), NO))
        body = ("or", (("val", "<", ("a", "k", 0, 0), ("a", "j", 1, 0)), ("val", "==", ("a", "", 2, 0), ("", 4))))
        self.assertEqual(([("", 2), ("i", 3), ("j", 1)], (), 21),
                         self.members((("all", ("k",), ("pos", "==", ("i", 3), ("k", 0)), body),), NO))

    def test_negative(self):
        self.assertEqual(([("*1", 0)], ("*1",), 12), self.members((), UPTO))
        self.assertEqual(([("*1", 0)], ("*1",), 12), self.members((("not", UPTO),), NO))
        self.assertEqual(([("*1", 0)], ("*1",), 12), self.members((("not", ("or", (("not", ("not", UPTO)),))),), NO))
        self.assertEqual(([("*1", 0), ("*2", 0)], ("*1", "*2"), 15), self.members((), ("and", (UPTO, UPTO))))
        self.assertEqual(([("*1", 0), ("*2", 0)], ("*1", "*2"), 55), self.members((), pairs(("i", 5), ("j", 0))))
        self.assertEqual(([("*1", 0), ("j", 3)], ("*1",), 28), self.members((), upto(("i", 1), cell=("a", "j", 3, 0))))
        self.assertEqual(([("*1", 0), ("i", 0)], ("*1",), 12), self.members((UPTO,), UPTO))

    def test_many_new_positions(self):
        wanted = ("and", (pairs(("i", 0), ("j", 0)),) * 6)
        terms, fresh, few = self.members((("not", UPTO),), wanted)
        self.assertEqual(tuple(f"*{at}" for at in range(1, 14)), fresh)
        self.assertEqual(sorted((word, 0) for word in fresh), terms)
        self.assertEqual(16 * 3, few)

    def test_order_of_new_positions(self):
        given = (("not", upto(("j", 0), "p")), ("or", (UPTO, ("not", pairs(("i", 0), ("j", 0))))))
        question = Question(FRAME, given, upto(("i", 5)))
        self.assertEqual(("*1", "*2", "*3", "*4"), question.fresh)
        made = Situation(FRAME, {"a": (0, 9, 8, 7)}, {"i": 1, "j": 3}, {"x": 7})
        self.assertEqual((1, 1, 2, 1), question.new_numbers(made))
        self.assertEqual((0, 1, 2, 0), question.new_numbers(made.with_number("x", 9)))

    def test_few(self):
        self.assertEqual(3 * (2 * SIXTY + 1), self.members((("pos", "<", ("i", -SIXTY), ("j", 1)),), NO)[2])
        self.assertEqual(3 * 15, self.members((("val", "<", ("a", "i", 7, 9), ("x", 8)),), NO)[2])
        self.assertEqual(3 * 9, self.members((upto(("", -4)),), NO)[2])
        self.assertEqual(4 * 9, self.members((), upto(("", -4)))[2])
        self.assertEqual(3 * 3, self.members((("val", "<", ("x", 100), ("", -50)),), NO)[2])


class BrokenTest(unittest.TestCase):
    """is_broken_by, new_numbers, laid and small."""

    def test_is_broken_by(self):
        self.assertIs(True, BROKEN.is_broken_by(SHOWN))
        self.assertIs(False, NEXT.is_broken_by(SHOWN))
        self.assertIs(False, BROKEN.is_broken_by(SHOWN.with_cell("a", 2, 5)))
        self.assertIs(False, BROKEN.is_broken_by(SHOWN.with_cell("a", 1, 6)))
        same = Situation(Frame((("a", "n"),), ("i", "j"), ("x",)), {"a": (4, 0, 7)}, {"i": 1, "j": 2}, {"x": 5})
        self.assertIs(True, BROKEN.is_broken_by(same))
        other = Situation(Frame((("a", "n"),), ("j", "i"), ("x",)), {"a": (4, 0, 7)}, {"i": 1, "j": 2}, {"x": 5})
        wider = Situation(FRAME.with_names(values=("y",)), {"a": (4, 0, 7)}, {"i": 1, "j": 2}, {"x": 5, "y": 0})
        for value in (other, wider, str(SHOWN), *JUNK[:-2], BROKEN, deep_junk()):
            self.assertIs(False, BROKEN.is_broken_by(value))

    def test_new_numbers_and_laid(self):
        self.assertEqual((2,), BROKEN.new_numbers(SHOWN))
        self.assertEqual("a=4 0 7 | i=1 j=2 | x=5", str(BROKEN.laid(SHOWN)))
        made = Situation(FRAME, {"a": (1, 2, 3, 4, 5, 6, 7, 8)}, {"i": 2, "j": 6}, {"x": 4})
        self.assertEqual((0,), BROKEN.new_numbers(made))
        self.assertEqual("a=1 1 3 3 3 3 3 3 | i=2 j=6 | x=4", str(BROKEN.laid(made)))
        self.assertEqual((3,), BROKEN.new_numbers(made.with_number("x", 3)))
        self.assertEqual("a=1 1 3 4 4 4 4 4 | i=2 j=6 | x=3", str(BROKEN.laid(made.with_number("x", 3))))
        given = ("val", "<", ("a", "j", -1, 0), ("a", "i", 9, 0))
        self.assertEqual("a=1 1 3 3 3 6 6 6 | i=2 j=6 | x=4", str(BROKEN.with_given(given).laid(made)))

    def test_laid_without_cells(self):
        made = Situation(WIDE, {"a": (), "b": (), "c": (3, 4)}, {"i": 1, "j": -5}, {"x": 0, "y": 0})
        question = Question(WIDE, (), ("val", "<", ("c", "i", 0, 0), ("a", "j", 0, 0)))
        self.assertEqual(made, question.laid(made))
        self.assertEqual("a=- b=- c=3 3 | i=1 j=-5 | x=0 y=0", str(Question(WIDE, (), NO).laid(made)))

    def test_wrong_situations(self):
        other = Situation(Frame((("a", "n"),), ("j", "i"), ("x",)), {"a": (4, 0, 7)}, {"i": 1, "j": 2}, {"x": 5})
        for value in (other, None, str(SHOWN), NEXT, (), {}, True):
            for call in (BROKEN.new_numbers, BROKEN.laid, BROKEN.small):
                with self.assertRaises(InvalidSituation):
                    call(value)
        for question, situation in ((NEXT, SHOWN), (BROKEN, SHOWN.with_number("x", 7))):
            with self.assertRaises(InvalidOperation):
                question.small(situation)

    def small_one(self, question, situation):
        made = question.small(situation)
        self.assertTrue(question.is_broken_by(made), (question.claims, question.goal, str(situation), str(made)))
        self.assertTrue(all(length <= question.few for length in made.lengths.values()))
        self.assertTrue(all(-question.few <= number <= question.few for number in made.positions.values()))
        return made

    def test_small(self):
        self.small_one(BROKEN, SHOWN)
        made = Situation(FRAME, {"a": (1,) * 500 + (3,) * 500}, {"i": 400, "j": -LONG + 1}, {"x": 1})
        small = self.small_one(BROKEN.wanting(upto(("n", -1))), made)
        self.assertLessEqual(len(small), 12)
        far = Situation(FRAME, {"a": ()}, {"i": SIXTY, "j": -SIXTY}, {"x": SIXTY})
        self.small_one(Question(FRAME, (), ("pos", "<=", ("i", 3), ("j", -3))), far)
        many = Question(FRAME, (("pos", "<=", ("j", SIXTY), ("i", 0)),), ("pos", "<", ("i", -SIXTY), ("j", 0)))
        self.small_one(many, far.with_number("i", 5).with_number("j", 5 - SIXTY))
        empty = Frame((), (), ())
        self.assertEqual(Situation(empty, {}, {}, {}), self.small_one(Question(empty, (), NO),
                                                                      Situation(empty, {}, {}, {})))

    def test_random(self):
        broken = 0
        frames = (FRAME, WIDE, Frame((("a", "n"), ("b", "m")), ("i",), ()), Frame((("a", "n"),), (), ("x",)))
        for seed, frame in enumerate(frames):
            maker = Maker(frame, random.Random(seed))
            for _ in range(400):
                question = Question(frame, tuple(maker.claim() for _ in range(maker.random.randint(0, 2))),
                                    maker.claim())
                situation = maker.situation(maker.random.choice((2, 9, 30)), maker.random.choice((3, 12, 40)))
                laid = question.laid(situation)
                self.assertEqual(len(question.fresh), len(question.new_numbers(situation)))
                self.assertEqual((situation.lengths, situation.positions, situation.amounts),
                                 (laid.lengths, laid.positions, laid.amounts))
                if question.is_broken_by(situation):
                    broken += 1
                    self.assertTrue(question.is_broken_by(laid), (question.claims, question.goal, str(situation)))
                    self.small_one(question, situation)
        self.assertGreater(broken, 300)


class OtherQuestionsTest(unittest.TestCase):
    """with_given, without_given and wanting."""

    def test_with_given(self):
        self.assertEqual(Question(FRAME, (*NEXT.claims, ORDER), NEXT.goal), NEXT.with_given(ORDER))
        self.assertEqual(2, len(NEXT))
        full = Question(FRAME, (ORDER,) * 40, NO)
        self.assertEqual(full, Question(FRAME, (ORDER,) * 39, NO).with_given(ORDER))
        with self.assertRaises(InvalidOperation):
            full.with_given(ORDER)
        for claim in JUNK + (nested(13), *with_trues(UPTO)):
            for call in (full.with_given, full.wanting):
                with self.assertRaises(InvalidClaim):
                    call(claim)

    def test_without_given(self):
        question = Question(FRAME, (ORDER, YES, UPTO), NO)
        for place, left in ((0, (YES, UPTO)), (1, (ORDER, UPTO)), (2, (ORDER, YES))):
            self.assertEqual(Question(FRAME, left, NO), question.without_given(place))
        for place in (-1, 3, True, False, None, "0", LONG, (0,), [0]):
            with self.assertRaises(InvalidNumber) as caught:
                question.without_given(place)
            self.assertIs(place, caught.exception.number)
        with self.assertRaises(InvalidNumber):
            Question(FRAME, (), NO).without_given(0)

    def test_wanting(self):
        self.assertEqual(Question(FRAME, NEXT.claims, ORDER), NEXT.wanting(ORDER))
        self.assertEqual(upto(("i", 1)), NEXT.goal)


if __name__ == "__main__":
    unittest.main()
