"""What follows: decided questions, papers, cores and askers."""

import itertools
import random
import unittest

from lentcells.base.frames import Frame
from lentcells.decide.follows import Asker, breaking, core, follows, is_paper, paper
from lentcells.errors import (
    InvalidClaim, InvalidFrame, InvalidNumber, InvalidOperation, InvalidQuestion, NothingToUndo, Refused, TooMany)
from lentcells.logic.claims import replaced
from lentcells.solve.questions import Question
from lentcells.solve.trees import is_tree
from lentcells.world.situations import Situation
from samples import BROKEN, FRAME, JUNK, NEXT, SHOWN, UPTO, WIDE, Maker, deep_junk, with_lists, with_trues

TRUE, FALSE = ("and", ()), ("or", ())
PLAIN = Frame((), ("i", "j", "h"), ("x", "y"))
PAIR = Frame((("a", "n"), ("b", "n")), ("i",), ())
APART = Frame((("a", "n"), ("b", "m")), ("i",), ())


def pos(op, one, other):
    return ("pos", op, one, other)


def val(op, one, other):
    return ("val", op, one, other)


def within(low, own, high):
    return ("and", (pos("<=", low, (own, 0)), pos("<=", (own, 0), high)))


def sorted_to(array, high):
    """That an array does not go down, for two own names."""
    guard = ("and", (pos("<=", ("", 0), ("p", 0)), pos("<=", ("p", 0), ("q", 0)), pos("<=", ("q", 0), high)))
    return ("all", ("p", "q"), guard, val("<=", (array, "p", 0, 0), (array, "q", 0, 0)))


def same_to(one, other, high):
    """That two arrays have equal cells."""
    return ("all", ("k",), within(("", 0), "k", high), val("==", (one, "k", 0, 0), (other, "k", 0, 0)))


INSIDE = (pos("<=", ("", 0), ("i", 0)), pos("<", ("i", 0), ("n", 0)))
# Triples (frame, given, wanted) of questions that follow.
FOLLOWING = (
    (PLAIN, (pos("<", ("i", 0), ("j", 0)), pos("<=", ("j", 0), ("h", -1))), pos("<=", ("i", 2), ("h", 0))),
    (PLAIN, (("not", pos("==", ("i", 0), ("j", 0))), pos("<=", ("i", 0), ("j", 0))), pos("<", ("i", 0), ("j", 0))),
    (PLAIN, (val("<", ("x", 0), ("y", 0)),), ("not", val("==", ("x", 0), ("y", 0)))),
    (PLAIN, (("or", (val("==", ("x", 0), ("", 3)), val("==", ("x", 0), ("", 5)))), val("<", ("x", 0), ("", 4))),
     val("==", ("x", 0), ("", 3))),
    (PLAIN, (), ("or", (pos("<=", ("i", 0), ("j", 0)), pos("<", ("j", 0), ("i", 0))))),
    (PLAIN, (FALSE,), val("<", ("x", 0), ("x", 0))),
    (PLAIN, (("not", TRUE), val("<", ("x", 0), ("y", 0))), FALSE),
    (PLAIN, (pos("<", ("i", 0), ("i", 0)),), pos("==", ("j", 0), ("h", 5))),
    (FRAME, (), pos("<=", ("", 0), ("n", 0))),
    (FRAME, (UPTO, pos("<=", ("", 0), ("i", 0))), val("<=", ("a", "i", 0, 0), ("x", 0))),
    (FRAME, (UPTO, val("<=", ("a", "i", 1, 0), ("x", 0))), replaced(FRAME, UPTO, {"i": ("i", 1)})),
    (FRAME, (UPTO, pos("<=", ("j", 0), ("i", 0))), replaced(FRAME, UPTO, {"i": ("j", 0)})),
    (FRAME, (("not", UPTO), pos("<=", ("i", 0), ("j", 0))), ("not", replaced(FRAME, UPTO, {"i": ("j", 0)}))),
    (FRAME, (pos("==", ("i", 0), ("j", 1)),), val("==", ("a", "i", 0, 0), ("a", "j", 1, 0))),
    (FRAME, (pos("<", ("i", 0), ("", 0)),), val("==", ("a", "i", 0, 0), ("", 0))),
    (FRAME, (pos("<=", ("n", 0), ("i", 0)),), val("==", ("a", "i", 0, 0), ("", 0))),
    (FRAME, (), val("==", ("a", "", -1, 0), ("a", "n", 0, 0))),
    (FRAME, (pos("==", ("n", 0), ("", 0)),), val("==", ("a", "", 0, 0), ("", 0))),
    (FRAME, (pos("==", ("n", 0), ("", 0)),), val("==", ("a", "i", 0, 0), ("", 0))),
    (FRAME, (sorted_to("a", ("n", -1)), *INSIDE, pos("<", ("i", 0), ("j", 0)), pos("<", ("j", 0), ("n", 0))),
     val("<=", ("a", "i", 0, 0), ("a", "j", 0, 0))),
    (FRAME, (sorted_to("a", ("i", 0)), val("<=", ("a", "i", 0, 0), ("a", "i", 1, 0)), *INSIDE), sorted_to("a", ("i", 1))),
    (FRAME, (("not", sorted_to("a", ("i", 0))),), ("not", sorted_to("a", ("i", 1)))),
    (PAIR, (same_to("a", "b", ("n", -1)),), val("==", ("a", "i", 0, 0), ("b", "i", 0, 0))),
    (PAIR, (same_to("a", "b", ("n", -1)), sorted_to("a", ("n", -1))), sorted_to("b", ("n", -1))),
    (APART, (same_to("a", "b", ("n", -1)), pos("==", ("n", 0), ("m", 0))), same_to("b", "a", ("m", -1))),
)
# The same for questions that do not.
FALLING = (
    (PLAIN, (pos("<", ("i", 0), ("j", 0)),), pos("<", ("i", 1), ("j", 0))),
    (PLAIN, (val("<=", ("x", 0), ("y", 0)),), val("<", ("x", 0), ("y", 0))),
    (PLAIN, (), FALSE),
    (PLAIN, (("or", (pos("<", ("i", 0), ("j", 0)), pos("<", ("j", 0), ("i", 0)))),), pos("<", ("i", 0), ("j", 0))),
    (FRAME, (UPTO,), val("<=", ("a", "i", 0, 0), ("x", 0))),
    (FRAME, (UPTO,), replaced(FRAME, UPTO, {"i": ("i", 1)})),
    (FRAME, (), pos("<", ("", 0), ("n", 0))),
    (FRAME, (), val("==", ("a", "i", 0, 0), ("a", "j", 0, 0))),
    (FRAME, (pos("<=", ("", 0), ("i", 0)),), val("==", ("a", "i", 0, 0), ("", 0))),
    (FRAME, (("not", UPTO),), ("not", replaced(FRAME, UPTO, {"i": ("i", -1)}))),
    (FRAME, (sorted_to("a", ("i", 0)), *INSIDE), sorted_to("a", ("i", 1))),
    (FRAME, (), ("all", ("k",), TRUE, val("<=", ("a", "k", 0, 0), ("x", 0)))),
    (PAIR, (same_to("a", "b", ("n", -2)),), same_to("a", "b", ("n", -1))),
    (APART, (same_to("a", "b", ("n", -1)),), same_to("b", "a", ("m", -1))),
)


def all_small(frame, most, low, high, reach):
    """All situations with lengths up to `most`, cells and values from low to high, and positions from -reach on."""
    numbers = range(low, high + 1)
    places = range(-reach, most + 1)
    for sizes in itertools.product(range(most + 1), repeat=len(frame.lengths)):
        size_of = dict(zip(frame.lengths, sizes))
        cells = [itertools.product(numbers, repeat=size_of[length]) for array, length in frame.arrays]
        for rows in itertools.product(*cells):
            for spots in itertools.product(places, repeat=len(frame.positions)):
                for contents in itertools.product(numbers, repeat=len(frame.amounts)):
                    yield Situation(frame, {pair[0]: row for pair, row in zip(frame.arrays, rows)},
                                    dict(zip(frame.positions, spots)), dict(zip(frame.amounts, contents)))


def with_members(many):
    """A question with so many members, from 4 on: those of a frame without fresh names, and more terms."""
    terms = [("i", number) for number in range(1, many - 2)]
    claims = tuple(val("<=", ("a", *term, 0), ("x", 0)) for term in terms)
    return Question(FRAME, (), ("or", claims))


class FollowsTest(unittest.TestCase):
    """Questions are decided."""

    def check(self, question, expected):
        """All that is told of a question fits together."""
        self.assertIs(follows(question), expected)
        found, told = breaking(question), paper(question)
        self.assertEqual(told, paper(question))
        self.assertEqual(found, breaking(question))
        self.assertTrue(is_paper(question, told))
        if expected:
            self.assertIsNone(found)
            self.assertEqual("follows", told[0])
            self.assertTrue(is_tree(question, told[1]))
            self.assertLessEqual(len(told[1]), 5000)
        else:
            self.assertEqual("broken", told[0])
            for situation in (found, told[1]):
                self.check_small(question, situation)

    def check_small(self, question, situation):
        self.assertTrue(question.is_broken_by(situation))
        few = question.few
        self.assertTrue(all(size <= few for size in situation.lengths.values()))
        self.assertTrue(all(-few <= number <= few for number in situation.positions.values()))

    def test_questions_that_follow(self):
        for told in FOLLOWING:
            with self.subTest(told):
                self.check(Question(*told), True)

    def test_questions_that_do_not(self):
        for told in FALLING:
            with self.subTest(told):
                self.check(Question(*told), False)

    def test_beside_a_look_at_small_situations(self):
        for frame, most, reach in ((FRAME, 2, 1), (PLAIN, 1, 1), (PAIR, 2, 2)):
            situations = list(all_small(frame, most, -1, 1, reach))
            for told in FOLLOWING + FALLING:
                if told[0] == frame:
                    question = Question(*told)
                    broken = any(question.is_broken_by(situation) for situation in situations)
                    self.assertFalse(follows(question) and broken, told)

    def test_random_questions(self):
        rand = random.Random(3)
        for frame, most, reach in ((FRAME, 2, 2), (PAIR, 2, 2), (WIDE, 1, 1)):
            situations = list(all_small(frame, most, -1, 1, reach)) if frame is not WIDE else []
            maker = Maker(frame, rand)
            for _ in range(60):
                given = tuple(maker.claim() for _ in range(rand.choice((0, 1, 2, 4))))
                question = Question(frame, given, rand.choice((maker.claim(), FALSE)))
                answer = follows(question)
                self.check(question, answer)
                if answer:
                    self.assertFalse(any(question.is_broken_by(situation) for situation in situations))

    def test_random_clauses(self):
        rand = random.Random(11)
        frame = Frame((("a", "n"), ("b", "m")), ("i", "j", "h"), ("x", "y"))
        answers = []
        for _ in range(40):
            maker = Maker(frame, rand, 1)
            given = [maker.all() for _ in range(rand.choice((1, 2, 4)))]
            given += [("or", tuple(maker.atom() for _ in range(rand.choice((2, 2, 3))))) for _ in range(rand.choice((8, 20)))]
            question = Question(frame, tuple(given), maker.all())
            if len(question.members) <= 16:
                answers.append(follows(question))
                self.check(question, answers[-1])
        self.assertEqual({True, False}, set(answers))

    def test_trees_stay_small(self):
        # Six cells of an array that goes up have six different contents of five.
        words = ("i", "j", "h", "l", "m", "o")
        frame = Frame((("a", "n"),), words, ())
        high = ("all", ("k",), within(("", 0), "k", ("n", -1)),
                ("and", (val("<=", ("", 0), ("a", "k", 0, 0)), val("<=", ("a", "k", 0, 0), ("", 4)))))
        apart = tuple(("not", val("==", ("a", one, 0, 0), ("a", other, 0, 0)))
                      for one, other in itertools.combinations(words, 2))
        inside = tuple(claim for word in words
                       for claim in (pos("<=", ("", 0), (word, 0)), pos("<", (word, 0), ("n", 0))))
        question = Question(frame, (sorted_to("a", ("n", -1)), high, *apart, *inside), FALSE)
        self.check(question, True)
        self.check(question.without_given(2), False)

    def test_trees_stay_small_where_cells_and_positions_are_apart(self):
        # Five cells have unlike contents, so their positions are unlike, too: more than there are.
        words = ("i", "j", "h", "l", "m")
        frame = Frame((("a", "n"),), words, ())
        apart = tuple(("not", val("==", ("a", one, 0, 0), ("a", other, 0, 0)))
                      for one, other in itertools.combinations(words, 2))
        inside = tuple(claim for word in words
                       for claim in (pos("<=", ("", 0), (word, 0)), pos("<", (word, 0), ("n", 0))))
        question = Question(frame, (*apart, *inside, pos("<", ("n", 0), ("", 5))), FALSE)
        self.check(question, True)
        self.check(question.without_given(4), False)
        self.check(question.without_given(len(question) - 1), False)

    def test_many_members_without_many_orders(self):
        frame = Frame((("a", "n"), ("b", "n")), ("i", "j", "h", "l", "m", "o"), ("x",))
        words = ("i", "j", "h", "l", "m", "o")
        terms = [(word, 0) for word in words] + [(word, 1) for word in words] + [("n", -1)]
        given = tuple(val("<=", ("a", *term, 0), ("b", *term, 0)) for term in terms[:-1])
        loose = Question(frame, given, val("<=", ("a", "i", 0, 0), ("b", "j", 0, 0)))
        self.assertEqual(15, len(loose.members))
        self.check(loose, False)
        chain = tuple(val("<=", ("a", *one, 0), ("a", *other, 0)) for one, other in zip(terms, terms[1:]))
        held = Question(frame, chain, val("<=", ("a", "i", 0, 0), ("a", "n", -1, 0)))
        self.assertEqual(16, len(held.members))
        self.check(held, True)
        self.check(held.without_given(5), False)

    def test_orders_where_they_are_needed(self):
        words = ("i", "j", "h", "l", "m", "o")
        frame = Frame((("a", "n"),), words, ())
        apart = tuple(("not", val("==", ("a", one, 0, 0), ("a", other, 0, 0)))
                      for one, other in itertools.combinations(words[:5], 2))
        low = tuple(val("<=", ("", 0), ("a", word, 0, 0)) for word in words[:5])
        high = tuple(val("<=", ("a", word, 0, 0), ("", 3)) for word in words[:5])
        self.check(Question(frame, apart + low + high, FALSE), True)
        self.check(Question(frame, apart[1:] + low + high, FALSE), False)

    def test_swapped_twice(self):
        frame = Frame(tuple((array, "n") for array in "abcde"), ("i", "j"), ())

        def version(new, old, spot):
            guard = ("or", (pos("<=", ("k", 0), (spot, -1)), pos("<=", (spot, 1), ("k", 0))))
            return ("all", ("k",), guard, val("==", (new, "k", 0, 0), (old, "k", 0, 0)))

        given = []
        for old, middle, new in (("a", "b", "c"), ("c", "d", "e")):
            given += [val("==", (middle, "i", 0, 0), (old, "j", 0, 0)), version(middle, old, "i"),
                      val("==", (new, "j", 0, 0), (old, "i", 0, 0)), version(new, middle, "j")]
        self.check(Question(frame, tuple(given), same_to("a", "e", ("n", -1))), True)
        self.check(Question(frame, tuple(given), same_to("a", "c", ("n", -1))), False)

    def test_great_numbers_are_bounded(self):
        # The integers that are returned have at most ten digits more than those that are passed.
        great = 10 ** 59
        chain = tuple(val("<=", (one, great), (other, -great)) for one, other in (("x", "y"), ("y", "z"), ("z", "w")))
        frame = Frame((("a", "n"),), ("i",), ("x", "y", "z", "w"))
        for wanted in (FALSE, val("<=", ("a", "i", 0, great), ("w", 0))):
            question = Question(frame, chain, wanted)
            self.check(question, False)
            numbers = breaking(question).amounts.values()
            self.assertTrue(all(abs(number) < 10 ** 70 for number in numbers))


class SizeTest(unittest.TestCase):
    """Questions that are too great are not decided."""

    def every(self, question):
        return [lambda: follows(question), lambda: breaking(question), lambda: paper(question),
                lambda: core(question)]

    def bound(self, call):
        with self.assertRaises(TooMany) as caught:
            call()
        return caught.exception.bound

    def test_members(self):
        self.assertEqual(16, len(with_members(16).members))
        self.assertFalse(follows(with_members(16)))
        self.assertEqual(17, len(with_members(17).members))
        self.assertEqual([16] * 4, [self.bound(call) for call in self.every(with_members(17))])

    def test_few(self):
        frame = Frame((), ("i", "j", "h", "l", "m"), ())
        most = Question(frame, (), pos("<=", ("i", 99), ("j", 0)))
        self.assertEqual(995, most.few)
        self.assertFalse(follows(most))
        over = Question(frame, (), pos("<=", ("i", 0), ("j", -100)))
        self.assertEqual(1005, over.few)
        self.assertEqual([1000] * 4, [self.bound(call) for call in self.every(over)])

    def test_few_of_just_1000(self):
        frame = Frame((("a", "n"), ("b", "m")), ("i", "j", "h", "l", "o"), ())
        own = ("all", ("k",), within(("i", 62), "k", ("n", -1)), val("<=", ("a", "k", 0, 0), ("", 0)))
        question = Question(frame, (pos("<=", ("", 62), ("i", 0)),), own)
        self.assertEqual(1000, question.few)
        self.assertFalse(follows(question))
        found = breaking(question)
        self.assertTrue(question.is_broken_by(found))
        self.assertLessEqual(max(found.lengths.values()), 1000)

    def test_both_and_no_question(self):
        both = Question(FRAME, (pos("<=", ("i", 5000), ("j", 0)),), with_members(17).goal)
        self.assertEqual([16] * 4, [self.bound(call) for call in self.every(both)])
        for value in JUNK[:-1] + (NEXT.facts, deep_junk()):
            for call in (follows, breaking, paper, core):
                with self.assertRaises(InvalidQuestion):
                    call(value)

    def test_papers_of_great_questions_are_judged(self):
        question = with_members(17)
        broken = Situation(FRAME, {"a": (9,) * 40}, {"i": 1, "j": 0}, {"x": 1})
        self.assertTrue(is_paper(question, ("broken", broken)))
        self.assertFalse(is_paper(question, ("follows", (("ring", ()),))))


class PaperTest(unittest.TestCase):
    """Papers are judged."""

    def test_any_right_paper(self):
        far = Situation(FRAME, {"a": (0,) * 900 + (7,)}, {"i": 899, "j": -10 ** 50}, {"x": 5})
        self.assertTrue(BROKEN.is_broken_by(far))
        self.assertTrue(is_paper(BROKEN, ("broken", far)))
        self.assertTrue(is_paper(BROKEN, ("broken", SHOWN)))
        self.assertTrue(is_paper(NEXT, paper(NEXT)))

    def test_other_words_and_parts(self):
        tree = paper(NEXT)[1]
        wrong = [("follows", SHOWN), ("broken", tree), ("Follows", tree), ("kept", tree), (tree,), tree, ("follows",),
                 ("follows", tree, tree), ["follows", tree], ("follows", list(tree)), ("broken", SHOWN), (True, tree),
                 ("follows", tree[:-1]), ("follows", tree + (("ring", ((2, 0),)),)), ("follows", ()), ("follows", None)]
        for value in wrong:
            self.assertIs(is_paper(NEXT, value), False)
        for value in (("follows", tree), ("broken", None), ("broken", SHOWN.with_number("x", 9)), ("follows", SHOWN)):
            self.assertIs(is_paper(BROKEN, value), False)
        other = Frame((("a", "n"),), ("i", "j"), ("x", "y"))
        strange = Situation(other, {"a": (4, 0, 7)}, {"i": 1, "j": 2}, {"x": 5, "y": 0})
        self.assertIs(is_paper(BROKEN, ("broken", strange)), False)

    def test_values_of_all_kinds(self):
        tree = paper(NEXT)[1]
        for value in JUNK + (deep_junk(), ("follows", deep_junk()), ("broken", deep_junk())):
            self.assertIs(is_paper(NEXT, value), False)
        for value in with_trues(tree) + with_lists(tree):
            self.assertIs(is_paper(NEXT, ("follows", value)), False)
        for value in JUNK[:-1]:
            with self.assertRaises(InvalidQuestion):
                is_paper(value, None)

    def test_what_is_told_is_no_way_in(self):
        found = breaking(BROKEN)
        found.rows["a"] = ()
        found.positions.clear()
        self.assertEqual(found, breaking(BROKEN))
        self.assertTrue(BROKEN.is_broken_by(found))

    def test_more_claims_and_terms(self):
        # [2.5]
        for told in FOLLOWING[8:14]:
            question = Question(*told)
            self.assertTrue(follows(question.with_given(pos("<", ("i", 3), ("j", 0)))))
            terms = {"i": ("j", 2), "j": ("n", -1), "x": ("a", "j", 1, -2)}
            given = tuple(replaced(FRAME, claim, terms) for claim in question.claims)
            self.assertTrue(follows(Question(FRAME, given, replaced(FRAME, question.goal, terms))))


def plain_core(question):
    """The core, with each claim looked at by a decision of its own."""
    kept = list(range(len(question)))
    for place in range(len(question)):
        rest = [number for number in kept if number != place]
        if follows(Question(question.frame, tuple(question.claims[number] for number in rest), question.goal)):
            kept = rest
    return tuple(kept)


class CoreTest(unittest.TestCase):
    """The claims that are needed."""

    def test_claims_that_stand_twice(self):
        less, further = pos("<", ("i", 0), ("j", 0)), pos("<=", ("j", 0), ("h", 0))
        wanted = pos("<", ("i", 0), ("h", 0))
        for given, expected in (((wanted, wanted), (1,)), ((less, further, less, further), (2, 3)),
                                ((less, further), (0, 1)), ((less, further, wanted), (2,)),
                                ((wanted, less, further), (1, 2))):
            self.assertEqual(expected, core(Question(PLAIN, given, wanted)))

    def test_nothing_needed(self):
        self.assertEqual((), core(Question(PLAIN, (FALSE, TRUE), TRUE)))
        self.assertEqual((), core(Question(PLAIN, (), TRUE)))
        self.assertEqual((0,), core(Question(PLAIN, (FALSE, TRUE), FALSE)))

    def test_needed_together(self):
        self.assertEqual((0, 1), core(NEXT))
        more = NEXT.with_given(TRUE).with_given(UPTO)
        self.assertEqual((1, 3), core(more))

    def test_beside_single_decisions(self):
        rand = random.Random(8)
        looked = 0
        for _ in range(120):
            maker = Maker(rand.choice((FRAME, PAIR, PLAIN)), rand, 1)
            question = Question(maker.frame, tuple(maker.claim(2) for _ in range(rand.choice((3, 5, 8)))), maker.claim(2))
            if follows(question):
                looked += 1
                self.assertEqual(plain_core(question), core(question))
        self.assertGreater(looked, 20)

    def test_errors(self):
        with self.assertRaises(InvalidOperation):
            core(BROKEN)
        # Whether the question follows is not known where it is too great.
        with self.assertRaises(TooMany):
            core(with_members(17))


class AskerTest(unittest.TestCase):
    """Askers answer by what they were told."""

    def setUp(self):
        self.asker = Asker(FRAME)
        self.less = pos("<", ("i", 0), ("j", 0))

    def test_answers(self):
        self.assertIs(True, self.asker.tell(self.less))
        answers = [self.asker.ask(claim) for claim in (
            pos("<=", ("i", 1), ("j", 0)), pos("<", ("j", 0), ("i", 0)), pos("<", ("i", 1), ("j", 0)), TRUE, FALSE, UPTO)]
        self.assertEqual(["yes", "no", "open", "yes", "no", "open"], answers)

    def test_a_not_that_is_too_deep_for_a_claim(self):
        deep = self.less
        for _ in range(11):
            deep = ("not", deep)
        self.assertEqual("open", self.asker.ask(deep))
        self.asker.tell(self.less)
        self.assertEqual("no", self.asker.ask(deep))
        self.assertEqual("broken", self.asker.why(deep)[0])

    def test_why(self):
        self.asker.tell(UPTO)
        for claim in (UPTO, self.less, val("<=", ("a", "i", 0, 0), ("x", 0))):
            question = Question(FRAME, self.asker.known, claim)
            told = self.asker.why(claim)
            self.assertTrue(is_paper(question, told))
            self.assertEqual(told[0] == "follows", self.asker.ask(claim) == "yes")

    def test_refused(self):
        self.asker.tell(self.less)
        self.asker.tell(UPTO)
        wrong = pos("<=", ("j", 0), ("i", 0))
        with self.assertRaises(Refused) as caught:
            self.asker.tell(wrong)
        question = Question(FRAME, (self.less, UPTO, wrong), ("or", ()))
        self.assertTrue(is_tree(question, caught.exception.reason))
        self.assertEqual((self.less, UPTO), self.asker.known)
        with self.assertRaises(Refused):
            self.asker.tell(FALSE)
        self.assertEqual(2, len(self.asker))

    def test_thirty_nine(self):
        for number in range(39):
            self.assertIs(True, self.asker.tell(pos("<=", ("i", 0), ("j", number))))
        self.assertEqual("yes", self.asker.ask(pos("<=", ("i", 0), ("j", 0))))
        self.assertEqual("no", self.asker.ask(pos("<", ("j", 0), ("i", 0))))
        for claim in (TRUE, FALSE, pos("<=", ("i", 9999), ("j", 0))):
            with self.assertRaises(InvalidOperation):
                self.asker.tell(claim)
        with self.assertRaises(InvalidClaim):
            self.asker.tell(None)
        self.assertEqual(39, len(self.asker))
        self.assertEqual(39, len(self.asker.undo(many=39)))

    def test_too_many(self):
        great = pos("<=", ("i", 5000), ("j", 0))
        for call in (self.asker.tell, self.asker.ask, self.asker.why):
            with self.assertRaises(TooMany) as caught:
                call(great)
            self.assertEqual(1000, caught.exception.bound)
        # The question of the not has more members than the one of the claim.
        guard = ("or", tuple(pos("<=", ("k", 0), ("i", number)) for number in range(14)))
        wide = ("all", ("k",), guard, val("<=", ("a", "k", 0, 0), ("x", 0)))
        with self.assertRaises(TooMany) as caught:
            self.asker.ask(wide)
        self.assertEqual(16, caught.exception.bound)
        self.asker.tell(("all", ("k",), TRUE, val("<=", ("a", "k", 0, 0), ("x", 0))))
        self.assertEqual("yes", self.asker.ask(wide))
        self.assertEqual("follows", self.asker.why(wide)[0])
        self.assertEqual(1, len(self.asker))

    def test_undo(self):
        claims = (self.less, UPTO, TRUE)
        for claim in claims:
            self.asker.tell(claim)
        self.assertEqual((), self.asker.undo(many=0))
        for many in (4, 10 ** 50):
            with self.assertRaises(NothingToUndo) as caught:
                self.asker.undo(many=many)
            self.assertEqual(many, caught.exception.asked)
        for many in (-1, True, None, "1", (), 10 ** 60):
            with self.assertRaises(InvalidNumber) as caught:
                self.asker.undo(many=many)
            self.assertEqual(many, caught.exception.number)
        self.assertEqual(claims, self.asker.known)
        self.assertEqual((TRUE,), self.asker.undo())
        self.assertEqual((UPTO, self.less), self.asker.undo(many=2))
        self.assertEqual("open", self.asker.ask(self.less))
        with self.assertRaises(NothingToUndo):
            self.asker.undo()

    def test_twins(self):
        self.asker.tell(self.less)
        twin = self.asker.twin()
        self.assertEqual(self.asker, twin)
        twin.tell(UPTO)
        self.assertNotEqual(self.asker, twin)
        self.assertEqual((1, 2), (len(self.asker), len(twin)))
        self.asker.undo()
        self.assertEqual((self.less, UPTO), twin.known)

    def test_equality_membership_and_text(self):
        other = Asker(FRAME)
        self.assertEqual("asker with 0 claims", str(other))
        self.asker.tell(self.less)
        self.asker.tell(UPTO)
        other.tell(UPTO)
        other.tell(self.less)
        self.assertNotEqual(self.asker, other)
        self.assertNotEqual(Asker(FRAME), Asker(PLAIN))
        self.assertEqual(Asker(FRAME), Asker(FRAME))
        self.assertEqual("asker with 2 claims", str(self.asker))
        self.assertIn(UPTO, self.asker)
        self.assertNotIn(TRUE, self.asker)
        self.assertNotIn(("not", UPTO), self.asker)
        for value in JUNK + (deep_junk(), *with_trues(UPTO), *with_lists(UPTO)):
            self.assertNotIn(value, self.asker)
            self.assertNotEqual(self.asker, value)
        with self.assertRaises(TypeError):
            iter(self.asker)

    def test_wrong_arguments(self):
        for value in JUNK + (deep_junk(), with_trues(UPTO)[0], with_lists(UPTO)[0]):
            for call in (self.asker.tell, self.asker.ask, self.asker.why):
                with self.assertRaises(InvalidClaim):
                    call(value)
            if value is not FRAME:
                with self.assertRaises(InvalidFrame):
                    Asker(value)
        self.assertEqual(0, len(self.asker))

    def test_answers_stay(self):
        # [2.5]
        rand = random.Random(5)
        maker = Maker(FRAME, rand, 1)
        asker = Asker(FRAME)
        asked = [maker.claim(2) for _ in range(12)]
        answers = [asker.ask(claim) for claim in asked]
        for _ in range(12):
            try:
                asker.tell(maker.claim(2))
            except Refused:
                pass
            fresh = [asker.ask(claim) for claim in asked]
            for old, new in zip(answers, fresh):
                self.assertIn(old, ("open", new))
            answers = fresh


if __name__ == "__main__":
    unittest.main()
