"""Contracts: whether functions may stand in for one another."""

import random
import unittest

from lentcells.base.frames import Frame
from lentcells.code.functions import Function
from lentcells.code.programs import Program
from lentcells.decide.follows import breaking, follows
from lentcells.errors import InvalidFunction, InvalidOperation, TooMany
from lentcells.pieces.kept import is_kept, is_program_kept
from lentcells.solve.trees import is_tree
from lentcells.use.contracts import (
    contract_questions, headings_alike, is_standing_paper, stands_in, standing_paper)
from lentcells.world.situations import Situation
from making import ALL, BOTH, FALSE, FILL, OUTER, TRUE, TWICE, TWO
from samples import JUNK, SHOWN, Maker, deep_junk, with_lists, with_trues

ZERO = ("", 0)


def pos(op, one, other):
    return ("pos", op, one, other)


def val(op, one, other):
    return ("val", op, one, other)


def heading(*arrays, positions=(), values=(), called="f", **passed):
    """A function with this heading."""
    return Function(called, arrays=arrays, positions=positions, values=values, **passed)


A = ("full", "a", "n", "u")
ONE = heading(A, ("look", "b", "n"), ("look", "c", "m"), positions=("i", "j"), values=("x",), called="one")
# The same heading with other names, some of which are names of the first one.
TWIN = heading(("full", "b", "k", "a"), ("look", "d", "k"), ("look", "n", "m"), positions=("j", "i"), values=("y",), called="twin")


class HeadingsTest(unittest.TestCase):
    """Like headings."""

    def test_alike(self):
        for one, other in ((ONE, TWIN), (ONE, ONE), (FILL, FILL.relabeled({"a": "z", "n": "m", "old": "a"})), (heading(), heading(called="g"))):
            self.assertIs(True, headings_alike(one, other))
            self.assertIs(True, headings_alike(other, one))
        more = Function("g", arrays=(A,), loans=(("full", "r", "n"),), places=("p",), numbers=("q",), rows=(("lend", "r", "a"),), before=(TRUE,))
        self.assertTrue(headings_alike(heading(A), more))

    def test_unlike(self):
        full, look = ("full", "b", "n", "w"), ("look", "b", "n")
        pairs = (
            (heading(A), heading()), (heading(A), heading(A, look)), (heading(A, full), heading(A, look)),
            (heading(look, A), heading(A, look)), (heading(A, look), heading(A, ("look", "b", "m"))),
            (heading(A, look, ("look", "c", "m")), heading(A, ("look", "b", "m"), ("look", "c", "n"))),
            (heading(A, look, ("look", "c", "m")), heading(A, ("look", "b", "m"), ("look", "c", "m"))),
            (heading(A, look, ("look", "c", "m")), heading(A, ("look", "b", "m"), ("look", "c", "l"))),
            (heading(positions=("i",)), heading()), (heading(positions=("i",)), heading(positions=("i", "j"))),
            (heading(values=("x",)), heading()), (heading(values=("x",)), heading(positions=("x",))),
            (FILL, TWICE), (TWO, OUTER),
        )
        for one, other in pairs:
            self.assertIs(False, headings_alike(one, other))
            self.assertIs(False, headings_alike(other, one))
            self.assertIs(False, stands_in(one, other))
            for call in (contract_questions, standing_paper, lambda mine, theirs: is_standing_paper(mine, theirs, None)):
                with self.assertRaises(InvalidOperation):
                    call(one, other)

    def test_like_lengths_at_other_places(self):
        one = heading(A, ("look", "b", "m"), ("look", "c", "n"), ("look", "d", "m"))
        self.assertTrue(headings_alike(one, heading(("full", "a", "l", "o"), ("look", "b", "k"), ("look", "c", "l"), ("look", "d", "k"))))
        self.assertFalse(headings_alike(one, heading(A, ("look", "b", "m"), ("look", "c", "m"), ("look", "d", "n"))))


class QuestionsTest(unittest.TestCase):
    """The questions of both rows."""

    BEFORE = ("and", (pos("<=", ("i", 1), ("n", 0)), val("<", ("a", "j", 0, 0), ("x", 2)), pos("<", ("m", 0), ("n", 0))))
    AFTER = ("all", ("k",), pos("<=", ("k", 0), ("i", 0)), val("==", ("a", "k", 0, 0), ("u", "k", 0, 0)))

    def test_both_rows(self):
        one = ONE.with_contract((TRUE, self.BEFORE), (self.AFTER, val("<=", ("c", "n", 0, 0), ("b", "m", 0, 0))))
        given = val("<=", ("b", "j", 0, 0), ("d", "i", 0, 0))
        wanted = val("==", ("b", "", 0, 0), ("a", "", 0, 0))
        other = TWIN.with_contract((given, FALSE), (TRUE, wanted))
        found = contract_questions(one, other)
        self.assertEqual([("before", 0), ("before", 1), ("after", 0), ("after", 1)], [kind for kind, question in found])
        start = Frame((("b", "k"), ("d", "k"), ("n", "m")), ("j", "i"), ("y",))
        end = Frame((("b", "k"), ("d", "k"), ("n", "m"), ("a", "k")), ("j", "i"), ("y",))
        self.assertEqual([start, start, end, end], [question.frame for kind, question in found])
        before = ("and", (pos("<=", ("j", 1), ("k", 0)), val("<", ("b", "i", 0, 0), ("y", 2)), pos("<", ("m", 0), ("k", 0))))
        # The own name k is the length of the other function, so it is another one there.
        after = ("all", ("kk",), pos("<=", ("kk", 0), ("j", 0)), val("==", ("b", "kk", 0, 0), ("a", "kk", 0, 0)))
        self.assertEqual([TRUE, before, TRUE, wanted], [question.goal for kind, question in found])
        self.assertEqual([(given, FALSE)] * 2, [question.claims for kind, question in found[:2]])
        # Where b stood for the array at the beginning, its name for that stands; the one that is looked at stays.
        ahead = (val("<=", ("a", "j", 0, 0), ("d", "i", 0, 0)), FALSE, after, val("<=", ("n", "k", 0, 0), ("d", "m", 0, 0)))
        self.assertEqual([ahead] * 2, [question.claims for kind, question in found[2:]])

    def test_no_claims(self):
        self.assertEqual((), contract_questions(ONE, TWIN))
        self.assertEqual(("stands", ()), standing_paper(ONE, TWIN))
        self.assertTrue(is_standing_paper(ONE, TWIN, ("stands", ())))

    def test_own_names_that_are_was_names(self):
        # An own name of `before` can be the name for the contents at the beginning, which its frame has not.
        claim = ("all", ("u",), pos("<=", ("u", 0), ZERO), val("==", ("a", "u", 0, 0), ZERO))
        function = heading(A, before=(claim,), after=(TRUE,))
        question = contract_questions(function, function)[1][1]
        self.assertEqual((("all", ("k",), pos("<=", ("k", 0), ZERO), val("==", ("u", "k", 0, 0), ZERO)), TRUE), question.claims)

    def test_own_names_that_are_names_of_the_other_function(self):
        claim = ("all", ("y", "d"), pos("<=", ("y", 0), ("d", 0)), val("==", ("b", "y", 0, 0), ("x", 0)))
        found = contract_questions(ONE.with_contract((claim,), (claim,)), TWIN.with_contract((), (TRUE,)))
        # The length of the other function is k.
        put = ("all", ("kk", "kkk"), pos("<=", ("kk", 0), ("kkk", 0)), val("==", ("d", "kk", 0, 0), ("y", 0)))
        self.assertEqual((put, (put,)), (found[0][1].goal, found[1][1].claims))

    def test_was_names_in_both_rows(self):
        same = val("==", ("a", "", 0, 0), ("u", "", 0, 0))
        low = val("<=", ("a", "", 0, 0), ZERO)
        one = heading(A, before=(low,), after=(same,))
        other = heading(("full", "z", "m", "y"), called="g", before=(val("<", ("z", "", 0, 0), ZERO),), after=(val("<", ("z", "", 0, 0), ZERO),))
        self.assertEqual([("before", 0), ("after", 0)], [kind for kind, question in contract_questions(one, other)])
        self.assertEqual((val("<", ("y", "", 0, 0), ZERO), val("==", ("z", "", 0, 0), ("y", "", 0, 0))),
                         contract_questions(one, other)[1][1].claims)
        self.assertTrue(stands_in(one, other))
        self.assertFalse(stands_in(other, one))


class StandsTest(unittest.TestCase):
    """Which functions may stand in for which."""

    def test_for_themselves(self):
        for function in (FILL, TWICE, TWO, OUTER, ONE, TWIN, FILL.with_contract((FALSE,), (FALSE,))):
            self.assertIs(True, stands_in(function, function))
            self.assertEqual("stands", standing_paper(function, function)[0])

    def test_fewer_before_and_more_after(self):
        # [7.3]
        weak = FILL.with_contract((pos("<", ZERO, ("n", 0)),), ())
        strong = FILL.with_contract((), (ALL, val("==", ("old", "", 0, 0), ("old", "", 0, 0))))
        self.assertEqual([True, False, True, False], [stands_in(FILL, weak), stands_in(weak, FILL), stands_in(strong, FILL), stands_in(weak, strong)])
        self.assertTrue(stands_in(strong, weak))

    def test_names_and_rows_play_no_part(self):
        other = FILL.relabeled({"a": "x", "x": "a", "n": "old", "old": "n"}).called_as("g").with_rows((), ())
        self.assertTrue(stands_in(FILL, other) and stands_in(other, FILL))

    def test_one_after_the_other(self):
        # [7.3], for random contracts.
        rand = random.Random(2)
        frames = Frame((("a", "n"),), ("i",), ("x",)), Frame((("a", "n"), ("u", "n")), ("i",), ("x",))
        makers = [Maker(frame, rand, 1) for frame in frames]
        base = heading(A, positions=("i",), values=("x",))
        functions = []
        for _ in range(9):
            before = tuple(makers[0].claim(1) for _ in range(rand.choice((0, 1, 1, 2))))
            functions.append(base.with_contract(before, tuple(makers[1].claim(1) for _ in range(rand.choice((0, 1, 1, 2))))))
        stands = {(at, to): stands_in(one, other) for at, one in enumerate(functions) for to, other in enumerate(functions)}
        self.assertEqual({True, False}, set(stands.values()))
        chains = 0
        for one, middle in [pair for pair in stands if stands[pair]]:
            for last in range(len(functions)):
                if stands[(middle, last)]:
                    chains += len({one, middle, last}) == 3
                    self.assertTrue(stands[(one, last)])
        self.assertGreater(chains, 3)

    def test_other_functions_stay_kept(self):
        # [7.3]
        strong = FILL.with_contract((), (ALL, val("==", ("x", 0), ("x", 0)), ("or", (ALL, FALSE))))
        made = BOTH.with_function(strong)
        self.assertTrue(stands_in(strong, FILL))
        self.assertTrue(is_kept(made, "twice"))
        self.assertIs(is_kept(made, "fill"), is_program_kept(made))
        weak = FILL.with_contract((FALSE,), (ALL,))
        self.assertFalse(stands_in(weak, FILL))
        self.assertFalse(is_kept(BOTH.with_function(weak), "twice"))


class PaperTest(unittest.TestCase):
    """Papers of standing in."""

    WEAK = FILL.with_contract((pos("<", ZERO, ("n", 0)), pos("<", ("", 1), ("n", 0))), (val("<=", ("x", 0), ("x", 0)),))

    def check(self, one, other):
        told = standing_paper(one, other)
        self.assertTrue(is_standing_paper(one, other, told))
        self.assertIs(told[0] == "stands", stands_in(one, other))
        self.assertEqual(told, standing_paper(one, other))
        questions = [question for kind, question in contract_questions(one, other)]
        if told[0] == "stands":
            for question, tree in zip(questions, told[1], strict=True):
                self.assertTrue(is_tree(question, tree))
        else:
            self.assertTrue(questions[told[1]].is_broken_by(told[2]))
        return told

    def test_both_forms(self):
        self.assertEqual("stands", self.check(FILL, self.WEAK)[0])
        word, index, situation = self.check(self.WEAK, FILL)
        self.assertEqual(("falls", 0), (word, index))
        self.assertEqual(FILL.start_frame, situation.frame)
        loose = FILL.with_contract((), (TRUE,))
        self.assertEqual(("falls", 0), self.check(loose, FILL)[:2])
        self.assertEqual(FILL.end_frame, self.check(loose, FILL)[2].frame)

    def test_any_index_and_situation(self):
        questions = [question for kind, question in contract_questions(self.WEAK, FILL)]
        self.assertEqual([False, False, False], [follows(question) for question in questions])
        for index, question in enumerate(questions):
            self.assertTrue(is_standing_paper(self.WEAK, FILL, ("falls", index, breaking(question))))
        great = Situation(FILL.end_frame, {"a": (5,) * 50, "old": (10 ** 55,) * 50}, {}, {"x": 5})
        self.assertFalse(is_standing_paper(self.WEAK, FILL, ("falls", 2, great)))
        self.assertTrue(is_standing_paper(self.WEAK, FILL, ("falls", 2, great.with_cell("a", 49, 4))))
        self.assertTrue(is_standing_paper(FILL.with_contract((), ()), FILL, ("falls", 0, great.with_cell("a", 49, 4))))

    def test_values_near_them(self):
        falls = standing_paper(self.WEAK, FILL)
        word, index, situation = falls
        for value in (("falls", 1 - index, Situation(FILL.start_frame, {"a": (1, 2)}, {}, {"x": 0})), ("falls", -3, situation), ("falls", 3, situation),
                      ("falls", False, situation), ("falls", index), ("stands", index, situation), [word, index, situation], (word, index, situation, ()),
                      ("falls", 2, situation), ("stands", ()), ("falls", index, None)):
            self.assertIs(False, is_standing_paper(self.WEAK, FILL, value))
        told = standing_paper(FILL, self.WEAK)
        tree = told[1][0]
        self.assertEqual(1, len(told[1]))
        for value in (("stands", ()), ("stands", told[1] * 2), ("stands", list(told[1])), ("stands", tree), ("falls", told[1]), list(told), ("stands",),
                      ("falls", 0, situation), ("stands", told[1], ()), ("stands", (tree[:-1],)), ("stands", ((*tree, tree[-1]),))):
            self.assertIs(False, is_standing_paper(FILL, self.WEAK, value))
        for other in (*with_trues(tree), *with_lists(tree)):
            self.assertIs(False, is_standing_paper(FILL, self.WEAK, ("stands", (other,))))
        for one, other in ((FILL, self.WEAK), (self.WEAK, FILL)):
            for value in JUNK + (deep_junk(), BOTH):
                self.assertIs(False, is_standing_paper(one, other, value))
                self.assertIs(False, is_standing_paper(one, other, ("stands", value)))
                self.assertIs(False, is_standing_paper(one, other, (value, ())))
                self.assertIs(False, is_standing_paper(one, other, ("falls", 0, value)))
                self.assertIs(False, is_standing_paper(one, other, ("falls", value, SHOWN)))

    def test_other_functions_have_other_papers(self):
        self.assertFalse(is_standing_paper(self.WEAK, FILL, standing_paper(FILL, self.WEAK)))
        self.assertFalse(is_standing_paper(FILL, self.WEAK, standing_paper(self.WEAK, FILL)))


class ErrorsTest(unittest.TestCase):
    """Errors, and their order."""

    CALLS = (headings_alike, contract_questions, stands_in, standing_paper, lambda one, other: is_standing_paper(one, other, None))

    def test_no_functions(self):
        for value in JUNK + (deep_junk(), BOTH):
            for call in self.CALLS:
                with self.assertRaises(InvalidFunction):
                    call(value, FILL)
                with self.assertRaises(InvalidFunction):
                    call(FILL, value)

    def test_great_questions(self):
        great = pos("<=", ("i", 5000), ("i", 0))
        base = heading(A, positions=("i",))
        wide = ("or", tuple(val("<=", ("a", "i", number, 0), ZERO) for number in range(1, 16)))
        for before, bound in (((great,), 1000), ((wide,), 16), ((wide, great), 16), ((TRUE, great, wide), 1000)):
            one = base.with_contract(before, ())
            for call in (stands_in, standing_paper):
                with self.assertRaises(TooMany) as caught:
                    call(one, base)
                self.assertEqual(bound, caught.exception.bound)
            self.assertEqual(len(before), len(contract_questions(one, base)))
            self.assertFalse(is_standing_paper(one, base, ("stands", ())))
        # The questions are decided in order, until one does not follow.
        one = base.with_contract((FALSE, great), ())
        self.assertFalse(stands_in(one, base))

    def test_papers_for_great_questions_are_judged(self):
        great = pos("<=", ("i", 5000), ("i", 0))
        base = heading(A, positions=("i",))
        one = base.with_contract((great,), ())
        broken = Situation(base.start_frame, {"a": ()}, {"i": 1}, {})
        self.assertTrue(is_standing_paper(one, base, ("falls", 0, broken)))


if __name__ == "__main__":
    unittest.main()
