"""Trees that are returned have at most 5000 nodes (point 0.6), also where many cases stand against one another."""

import itertools
import random
import unittest
from unittest import mock

from lentcells.base.frames import Frame
from lentcells.decide import deciding
from lentcells.decide.branching import Growth, bits_of
from lentcells.decide.covers import cover_of, is_covered
from lentcells.decide.follows import Asker, is_paper, paper
from lentcells.decide.reach import Reach
from lentcells.errors import Refused
from lentcells.solve.differences import fitting, tightest
from lentcells.solve.questions import Question
from lentcells.solve.trees import is_tree
from samples import Maker

MOST = 5000
NEVER = ("or", ())
INSIDE = ("and", (("pos", "<=", ("", 0), ("k", 0)), ("pos", "<=", ("k", 0), ("n", -1))))


def cell(word):
    return ("a", word, 0, 0)


def unlike(words):
    """Cells at each two of the positions are unlike."""
    return [("not", ("val", "==", cell(one), cell(other))) for one, other in itertools.combinations(words, 2)]


def held_in(words, body, values=()):
    """Unlike cells, each of which is as the body says if it is inside."""
    frame = Frame((("a", "n"),), tuple(words), tuple(values))
    return Question(frame, (*unlike(words), ("all", ("k",), INSIDE, body)), NEVER)


def one_of(terms):
    return ("or", tuple(("val", "==", cell("k"), term) for term in terms))


def between(low, high):
    return ("and", (("val", "<=", ("", low), cell("k")), ("val", "<=", cell("k"), ("", high))))


def parity(words, side):
    """How many of the sides are taken is even, and it is odd."""
    claims = []
    for rest in (0, 1):
        ways = [way for way in itertools.product((0, 1), repeat=len(words)) if sum(way) % 2 != rest]
        claims.append(("and", tuple(("or", tuple(side(word, not great) for word, great in zip(words, way)))
                                    for way in ways)))
    return Question(Frame((("a", "n"),), tuple(words), ()), tuple(claims), NEVER)


def sided(word, at, many):
    """A position is on one of so many sides: at most 0, 1, 2, .., or at least the last one."""
    if at == 0:
        return ("pos", "<=", (word, 0), ("", 0))
    return ("pos", "<=", ("", at), (word, 0)) if at == many - 1 else ("pos", "==", (word, 0), ("", at))


def counted(words, many, by_not):
    """The sides on which positions are have a sum with the rest 0, and one with the rest 1."""
    def beside(word, at):
        others = tuple(sided(word, other, many) for other in range(many) if other != at)
        return ("not", sided(word, at, many)) if by_not else ("or", others)
    claims = []
    for rest in (0, 1):
        ways = [way for way in itertools.product(range(many), repeat=len(words)) if sum(way) % many != rest]
        claims.append(("and", tuple(("or", tuple(beside(word, at) for word, at in zip(words, way))) for way in ways)))
    return Question(Frame((), tuple(words), ()), tuple(claims), NEVER)


class SmallPapers(unittest.TestCase):
    """Questions for which plain ways to look for a tree find only great ones."""

    def check(self, question, most=MOST, may_break=False):
        told = paper(question)
        if told[0] == "broken":
            self.assertTrue(may_break and is_paper(question, told))
            return
        self.assertEqual("follows", told[0])
        self.assertTrue(is_tree(question, told[1]))
        self.assertTrue(is_paper(question, told))
        self.assertLessEqual(len(told[1]), most)

    def test_unlike_cells_with_few_contents(self):
        for words, most in (("pqr", 400), ("pqrs", 1000), ("pqrst", MOST)):
            self.check(held_in(words, one_of([("", number) for number in range(len(words) - 1)])), most)

    def test_unlike_cells_in_a_range(self):
        for words, most in (("pqr", 300), ("pqrs", 600), ("pqrst", 2000)):
            self.check(held_in(words, between(0, len(words) - 2)), most)

    def test_unlike_cells_with_the_contents_of_values(self):
        # Outside of the array the cells are 0, so there is one content more than there are values.
        self.check(held_in("pqrst", one_of([("x", 0), ("y", 0), ("z", 0)]), "xyz"))

    def test_unlike_cells_at_positions_of_which_there_are_few(self):
        frame = Frame((("a", "n"),), tuple("pqrst"), ())
        inside = [("and", (("pos", "<=", ("", 0), (word, 0)), ("pos", "<", (word, 0), ("n", 0)))) for word in "pqrst"]
        self.check(Question(frame, (*unlike("pqrst"), *inside, ("pos", "<", ("n", 0), ("", 5))), NEVER), 1000)

    def test_parities_of_positions(self):
        def strict(word, great):
            return ("pos", "<", ("", 0), (word, 0)) if great else ("pos", "<", (word, 0), ("", 1))

        def by_not(word, great):
            return ("not", ("pos", "<=", (word, 0), ("", 0))) if great else ("pos", "<=", (word, 0), ("", 0))

        def beside_a_length(word, great):
            return ("pos", "<=", ("n", -1), (word, 0)) if great else ("pos", "<", (word, 1), ("n", 0))

        def equal(word, great):
            return ("not", ("pos", "==", (word, 0), ("", 3))) if great else ("pos", "==", (word, 0), ("", 3))

        for side in (strict, by_not, beside_a_length, equal):
            self.check(parity("pqrst", side), 1500)
        for side in (strict, equal):
            self.check(parity("pqrstu", side))

    def test_several_sides_of_positions(self):
        self.check(counted("pqrs", 3, True), 1200)
        self.check(counted("pqrst", 3, True))
        self.check(counted("pqr", 5, False))
        self.check(counted("pqr", 6, False))

    def test_parities_of_contents(self):
        # There is no way to hold contents apart, so there are as many cases as the ors have parts.
        self.check(parity("pqrst", lambda word, great: (
            ("val", "<=", ("", 1), cell(word)) if great else ("val", "<=", cell(word), ("", 0)))), 2000)

    def test_many_random_ors(self):
        rand = random.Random(4)
        words = ("p", "q", "r", "s", "t", "u")
        frame = Frame((), words, ())
        for size, many in ((3, 50), (4, 110), (5, 250)):
            ors = []
            for _ in range(many):
                chosen = rand.sample(words, size)
                ors.append(("or", tuple(rand.choice((("pos", "<=", ("", 1), (word, 0)), ("pos", "<=", (word, 0), ("", 0))))
                                        for word in chosen)))
            self.check(Question(frame, (("and", tuple(ors)),), NEVER), 2000, may_break=True)

    def test_askers(self):
        question = held_in("pqrs", one_of([("", number) for number in range(3)]))
        asker = Asker(question.frame)
        for claim in question.claims[1:]:
            asker.tell(claim)
        first = question.claims[0]
        word, tree = asker.why(first[1])
        self.assertEqual("follows", word)
        self.assertLessEqual(len(tree), 1000)
        with self.assertRaises(Refused) as caught:
            asker.tell(first)
        tree = caught.exception.reason
        self.assertTrue(is_tree(Question(question.frame, (*asker.known, first), NEVER), tree))
        self.assertLessEqual(len(tree), 1000)


class PlansTest(unittest.TestCase):
    """Searches by a plan, which begin at once here, tell the same as those that come first otherwise."""

    def questions(self, many):
        rand = random.Random(12)
        for _ in range(many):
            arrays = (("a", "n"), ("b", rand.choice(("n", "m"))))[:rand.randint(0, 2)]
            frame = Frame(arrays, ("r", "s", "t")[:rand.randint(1, 3)], ("x", "y")[:rand.randint(0, 2)])
            maker = Maker(frame, rand, 1)
            ors = [("or", tuple(maker.atom() for _ in range(rand.randint(2, 3)))) for _ in range(rand.randint(0, 20))]
            given = tuple(maker.claim(3) for _ in range(rand.randint(1, 6)))
            yield Question(frame, (*given, ("and", tuple(ors))), maker.claim(3))

    def test_random_questions(self):
        seen = []
        for question in self.questions(250):
            if len(question.members) > 16:
                continue
            word = paper(question)[0]
            with mock.patch.object(deciding, "FIRST_BACKS", 1), mock.patch.object(deciding, "PER_STEP", 1):
                other = paper(question)
            self.assertEqual(word, other[0])
            self.assertTrue(is_paper(question, other))
            seen.append(word)
        self.assertTrue(min(seen.count("follows"), seen.count("broken")) > 30)


class CoversTest(unittest.TestCase):
    """Ors that leave nothing out."""

    def test_beside_numbers(self):
        rand = random.Random(3)
        seen = []
        for _ in range(3000):
            parts, plain = [], []
            for _ in range(rand.randint(2, 4)):
                number = rand.randint(-3, 3)
                kind = rand.choice(("low", "high", "just"))
                low, high = ("q", "p", -number), ("p", "q", number)
                parts.append(("atom", True, {"low": (low,), "high": (high,), "just": (high, low)}[kind]))
                plain.append((-99 if kind == "high" else number, 99 if kind == "low" else number))
            first, last = rand.choice((None, rand.randint(-4, 4))), rand.choice((None, rand.randint(-4, 4)))
            of_positions, points, spans = cover_of(tuple(parts))
            self.assertTrue(of_positions)
            if points == ("q", "p"):
                first, last = None if last is None else -last, None if first is None else -first
            numbers = range(-20 if first is None else first, 21 if last is None else last + 1)
            if points == ("q", "p"):
                plain = [(-high, -low) for low, high in plain]
            covered = all(any(low <= number <= high for low, high in plain) for number in numbers)
            if len(numbers) > 0:
                self.assertEqual(covered, is_covered(first, last, spans), (parts, first, last))
                seen.append(covered)
        self.assertTrue(100 < seen.count(True) < len(seen) - 100)

    def test_nothing_to_compare(self):
        one = ("atom", True, (("p", "q", 1),))
        for other in (("atom", True, (("p", "r", 1),)), ("atom", False, (("p", "q", 1),)), ("more",)):
            self.assertIsNone(cover_of((one, other)))
            self.assertIsNone(cover_of((other, one)))
        self.assertIsNone(cover_of(()))
        self.assertIsNone(cover_of((one,)))
        same = ("atom", True, (("p", "p", 1), ("p", "p", -1)))
        self.assertIsNone(cover_of((same, same)))


class ReachTest(unittest.TestCase):
    """Tightest bounds that are kept up to date."""

    def test_beside_differences(self):
        rand = random.Random(8)
        points = ("", "i", "j", ("a", "i", 0), ("a", "j", 1))
        for _ in range(200):
            reach, kept = Reach(), ()
            for _ in range(8):
                one, other = rand.sample(points, 2)
                difference = (one, other, rand.randint(-3, 4))
                fits = fitting((*kept, difference)) is not None
                self.assertEqual(not fits, reach.bars(difference))
                copied = reach.copied()
                self.assertEqual(fits, copied.take(difference))
                if fits:
                    reach, kept = copied, (*kept, difference)
                    for low, high in itertools.permutations(points, 2):
                        self.assertEqual(tightest(kept, low, high), reach.gap(low, high))

    def test_growth(self):
        self.assertEqual([0, 64, 101, 128], [bits_of(many) for many in (1, 2, 3, 4)])
        growth = Growth()
        # Two cases that make one bit each: as many nodes as there are ways.
        growth.find_rate(128, [[(64, 0), (64, 0)], [(0, 0), (None, 7)]])
        self.assertAlmostEqual(2 * growth.nodes_behind([(64, 0)]), growth.nodes_behind([(128, 0)]), delta=2)
        self.assertEqual(growth.nodes_behind([(64, 0)]) + 7, growth.nodes_behind([(64, 0), (None, 7)]))


if __name__ == "__main__":
    unittest.main()
