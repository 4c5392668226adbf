"""The examples of the document, as far as the parts that they show are built."""

import unittest

from lentcells.base.frames import Frame
from lentcells.logic.claims import all_between, carried, is_claim, names_of, replaced, used_at
from lentcells.solve.differences import differences_of, is_ring, ring, tightest
from lentcells.solve.questions import Question
from lentcells.solve.trees import Closing
from lentcells.world.situations import Situation

FRAME = Frame((("a", "n"),), ("i", "j"), ("x",))
UPTO = ("all", ("k",), ("and", (("pos", "<=", ("", 0), ("k", 0)), ("pos", "<=", ("k", 0), ("i", 0)))),
        ("val", "<=", ("a", "k", 0, 0), ("x", 0)))


class ExamplesTest(unittest.TestCase):
    """One test for each block of examples."""

    def test_frames(self):
        self.assertEqual([("n",), "position", True, False, ("a", "i", 2, 2), "a:n | i j | x", 5], [
            FRAME.lengths, FRAME.kind_of("j"), FRAME.is_value_term(("a", "i", 2, -1)), FRAME.is_position_term(("x", 0)),
            FRAME.shifted(("a", "i", 2, -1), 3), str(FRAME), len(FRAME)])

    def test_claims(self):
        self.assertEqual([True, ("a", "i", "x"), True, ("val", "<=", ("a", "j", -1, 0), ("x", 0))], [
            is_claim(FRAME, UPTO), names_of(FRAME, UPTO),
            UPTO == all_between(FRAME, ("", 0), ("i", 0), "<=", ("a", "k", 0, 0), ("x", 0)),
            used_at(FRAME, UPTO, (("j", -1),))[1][1]])
        self.assertEqual(
            ("all", ("kk",), ("and", (("pos", "<=", ("", 0), ("kk", 0)), ("pos", "<=", ("kk", 0), ("p", 1)))),
             ("val", "<=", ("b", "kk", 0, 0), ("b", "p", 0, 2))),
            carried(FRAME, UPTO, Frame((("b", "k"),), ("p",), ()), {"a": "b"},
                    {"i": ("p", 1), "j": ("", 0), "x": ("b", "p", 0, 2)}))

    def test_situations(self):
        shown = Situation(FRAME, {"a": (4, 0, 7)}, {"i": 1, "j": 2}, {"x": 5})
        below = ("all", ("k",), ("and", ()), ("val", "<", ("a", "k", 0, 0), ("", 0)))
        self.assertEqual([True, (2,), 3, {"n": 3}, "a=4 0 7 | i=1 j=2 | x=5", False], [
            shown.holds(UPTO), shown.with_number("i", 2).failure(UPTO), shown.value_at(("a", "j", 1, 3)), shown.lengths,
            str(shown), shown.holds(below)])

    def test_differences(self):
        chain = (("i", "", 4), ("j", "i", -2), ("", "j", 1))
        self.assertEqual([2, -1, None, True], [tightest(chain, "j", ""), tightest(chain, "", "i"), ring(chain),
                                               is_ring(chain + (("i", "j", 1),), (3, 1))])
        self.assertEqual([(("i", "n", -3),), (("x", ("a", "i", 2), 0),)], [
            differences_of(FRAME, ("pos", "<", ("i", 1), ("n", -1))),
            differences_of(FRAME, ("not", ("val", "<=", ("a", "i", 2, 1), ("x", 0))))])

    def test_questions(self):
        shown = Situation(FRAME, {"a": (4, 0, 7)}, {"i": 1, "j": 2}, {"x": 5})
        given = (UPTO, ("val", "<=", ("a", "i", 1, 0), ("x", 0)))
        following = Question(FRAME, given, replaced(FRAME, UPTO, {"i": ("i", 1)}))
        self.assertEqual(
            [(("", -1), ("", 0), ("*1", 0), ("i", 0), ("i", 1), ("n", 0)), ("*1",), 4,
             "question of 2 given, 6 members, few 12"],
            [following.members, following.fresh, len(following.facts), str(following)])
        broken = Question(FRAME, (UPTO,), replaced(FRAME, UPTO, {"i": ("i", 1)}))
        self.assertEqual([True, (2,), "a=4 0 7 | i=1 j=2 | x=5"],
                         [broken.is_broken_by(shown), broken.new_numbers(shown), str(broken.laid(shown))])

    def test_trees(self):
        given = (UPTO, ("val", "<=", ("a", "i", 1, 0), ("x", 0)))
        closing = Closing(Question(FRAME, given, replaced(FRAME, UPTO, {"i": ("i", 1)})))
        self.assertEqual([0, 1, 2, 3, 4], [
            closing.new(3, ("q",)), closing.part(4, 0), closing.part(4, 1), closing.apart(("q", 0), ("i", 1)),
            closing.use(1, (("q", 0),))])
        self.assertEqual(
            [7, 8, 10, ("not", ("pos", "<=", ("q", 0), ("i", 0))), (5, 6, 9, 11), "closing with 8 nodes, 4 open"],
            [closing.cases(9), closing.cases(10), closing.ring(((11, 0), (6, 0))), closing.facts[11],
             closing.open_nodes,
             str(closing)])


if __name__ == "__main__":
    unittest.main()
