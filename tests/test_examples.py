"""The examples of the document, as far as the parts that they show are built."""

import unittest

from lentcells.base.frames import Frame
from lentcells.code.functions import Function
from lentcells.code.programs import Program
from lentcells.decide.follows import Asker, breaking, follows, paper
from lentcells.loans.facts import behind, first_state, next_rows, uses
from lentcells.loans.shapes import shape_of, shapes, wanted
from lentcells.loans.tables import Table
from lentcells.loans.trails import faulty_walk, walk_to
from lentcells.logic.claims import all_between, carried, is_claim, names_of, replaced, used_at
from lentcells.pieces.kept import is_kept, is_program_kept
from lentcells.pieces.pieces import pieces
from lentcells.runs.breaks import outcome, parting
from lentcells.runs.runs import Run
from lentcells.solve.differences import differences_of, is_ring, ring, tightest
from lentcells.solve.questions import Question
from lentcells.solve.trees import Closing
from lentcells.world.situations import Situation

FRAME = Frame((("a", "n"),), ("i", "j"), ("x",))
UPTO = ("all", ("k",), ("and", (("pos", "<=", ("", 0), ("k", 0)), ("pos", "<=", ("k", 0), ("i", 0)))),
        ("val", "<=", ("a", "k", 0, 0), ("x", 0)))


class ExamplesTest(unittest.TestCase):
    """One test for each block of examples."""

    def test_frames(self):
        self.assertEqual([("n",), "position", True, False, ("a", "i", 2, 2), "a:n | i j | x", 5], [
            FRAME.lengths, FRAME.kind_of("j"), FRAME.is_value_term(("a", "i", 2, -1)), FRAME.is_position_term(("x", 0)),
            FRAME.shifted(("a", "i", 2, -1), 3), str(FRAME), len(FRAME)])

    def test_claims(self):
        self.assertEqual([True, ("a", "i", "x"), True, ("val", "<=", ("a", "j", -1, 0), ("x", 0))], [
            is_claim(FRAME, UPTO), names_of(FRAME, UPTO),
            UPTO == all_between(FRAME, ("", 0), ("i", 0), "<=", ("a", "k", 0, 0), ("x", 0)),
            used_at(FRAME, UPTO, (("j", -1),))[1][1]])
        self.assertEqual(
            ("all", ("kk",), ("and", (("pos", "<=", ("", 0), ("kk", 0)), ("pos", "<=", ("kk", 0), ("p", 1)))),
             ("val", "<=", ("b", "kk", 0, 0), ("b", "p", 0, 2))),
            carried(FRAME, UPTO, Frame((("b", "k"),), ("p",), ()), {"a": "b"},
                    {"i": ("p", 1), "j": ("", 0), "x": ("b", "p", 0, 2)}))

    def test_situations(self):
        shown = Situation(FRAME, {"a": (4, 0, 7)}, {"i": 1, "j": 2}, {"x": 5})
        below = ("all", ("k",), ("and", ()), ("val", "<", ("a", "k", 0, 0), ("", 0)))
        self.assertEqual([True, (2,), 3, {"n": 3}, "a=4 0 7 | i=1 j=2 | x=5", False], [
            shown.holds(UPTO), shown.with_number("i", 2).failure(UPTO), shown.value_at(("a", "j", 1, 3)), shown.lengths,
            str(shown), shown.holds(below)])

    def test_differences(self):
        chain = (("i", "", 4), ("j", "i", -2), ("", "j", 1))
        self.assertEqual([2, -1, None, True], [tightest(chain, "j", ""), tightest(chain, "", "i"), ring(chain),
                                               is_ring(chain + (("i", "j", 1),), (3, 1))])
        self.assertEqual([(("i", "n", -3),), (("x", ("a", "i", 2), 0),)], [
            differences_of(FRAME, ("pos", "<", ("i", 1), ("n", -1))),
            differences_of(FRAME, ("not", ("val", "<=", ("a", "i", 2, 1), ("x", 0))))])

    def test_questions(self):
        shown = Situation(FRAME, {"a": (4, 0, 7)}, {"i": 1, "j": 2}, {"x": 5})
        given = (UPTO, ("val", "<=", ("a", "i", 1, 0), ("x", 0)))
        following = Question(FRAME, given, replaced(FRAME, UPTO, {"i": ("i", 1)}))
        self.assertEqual(
            [(("", -1), ("", 0), ("*1", 0), ("i", 0), ("i", 1), ("n", 0)), ("*1",), 4,
             "question of 2 given, 6 members, few 12"],
            [following.members, following.fresh, len(following.facts), str(following)])
        broken = Question(FRAME, (UPTO,), replaced(FRAME, UPTO, {"i": ("i", 1)}))
        self.assertEqual([True, (2,), "a=4 0 7 | i=1 j=2 | x=5"],
                         [broken.is_broken_by(shown), broken.new_numbers(shown), str(broken.laid(shown))])

    def test_trees(self):
        given = (UPTO, ("val", "<=", ("a", "i", 1, 0), ("x", 0)))
        closing = Closing(Question(FRAME, given, replaced(FRAME, UPTO, {"i": ("i", 1)})))
        self.assertEqual([0, 1, 2, 3, 4], [
            closing.new(3, ("q",)), closing.part(4, 0), closing.part(4, 1), closing.apart(("q", 0), ("i", 1)),
            closing.use(1, (("q", 0),))])
        self.assertEqual(
            [7, 8, 10, ("not", ("pos", "<=", ("q", 0), ("i", 0))), (5, 6, 9, 11), "closing with 8 nodes, 4 open"],
            [closing.cases(9), closing.cases(10), closing.ring(((11, 0), (6, 0))), closing.facts[11],
             closing.open_nodes,
             str(closing)])

    def test_what_follows(self):
        given = (UPTO, ("val", "<=", ("a", "i", 1, 0), ("x", 0)))
        following = Question(FRAME, given, replaced(FRAME, UPTO, {"i": ("i", 1)}))
        broken = Question(FRAME, (UPTO,), replaced(FRAME, UPTO, {"i": ("i", 1)}))
        self.assertEqual([True, False, None, True, "follows"], [
            follows(following), follows(broken), breaking(following), broken.is_broken_by(breaking(broken)),
            paper(following)[0]])
        asker = Asker(FRAME)
        self.assertEqual([True, "open", True, "yes", "asker with 2 claims"], [
            asker.tell(UPTO), asker.ask(("val", "<=", ("a", "i", 0, 0), ("x", 0))),
            asker.tell(("pos", "<=", ("", 0), ("i", 0))), asker.ask(("val", "<=", ("a", "i", 0, 0), ("x", 0))),
            str(asker)])

    def test_programs(self):
        up = ("pos", "<", ("i", 0), ("n", 0))
        done = ("all", ("k",), ("and", (("pos", "<=", ("", 0), ("k", 0)), ("pos", "<=", ("k", 0), ("i", -1)))),
                ("val", "==", ("a", "k", 0, 0), ("x", 0)))
        span = (("pos", "<=", ("", 0), ("i", 0)), ("pos", "<=", ("i", 0), ("n", 0)))
        every = ("all", ("k",), ("and", (("pos", "<=", ("", 0), ("k", 0)), ("pos", "<=", ("k", 0), ("n", -1)))),
                 ("val", "==", ("a", "k", 0, 0), ("x", 0)))
        fill = Function("fill", arrays=(("full", "a", "n", "old"),), values=("x",), places=("i",),
                        rows=(("while", up, (("write", "a", "i", 0, ("x", 0)), ("move", "i", ("i", 1)))),),
                        notes=((done, *span),), after=(every,))
        twice = Function("twice", arrays=(("full", "b", "m", "was"), ("look", "c", "m")), loans=(("full", "r", "m"),),
                         rows=(("lend", "r", "b"), ("call", "fill", ("r",), (), (("", 7),)),
                               ("if", ("pos", "<", ("", 0), ("m", 0)), (("write", "b", "", 0, ("c", "", 0, 0)),), ())))
        both = Program((twice, fill))
        self.assertEqual(
            ["fill: 3 rows, 1 loops", "program of 2 functions, 7 rows", ("fill", "twice"), ("fill",),
             ("write", "a", "i", 0, ("x", 0)), "full", (("a", "n"), ("old", "n")),
             (("b", "m"), ("c", "m"), ("r", "m"), ("was", "m")), ("twice",)],
            [str(fill), str(both), both.names, twice.callees, fill.row(1), twice.way_of("r"), fill.end_frame.arrays,
             twice.frame.arrays, both.callers("fill")])
        self.assertEqual(
            ["piece of fill from start to 0: 0 rows", "piece of fill from 0 to end: 1 rows",
             "piece of fill from 0 to 0: 3 rows"], [str(piece) for piece in pieces(both, "fill")])
        self.assertEqual(
            (["piece of twice from start to end: 3 rows", "piece of twice from start to end: 4 rows"],
             {"b": "wb", "c": "c", "r": "wb"}),
            ([str(piece) for piece in pieces(both, "twice")], pieces(both, "twice")[1].names))
        self.assertEqual(
            ([("inside", 3), ("inside", 3)], True, True),
            ([kind for kind, question in pieces(both, "twice")[1].questions()], is_program_kept(both),
             is_kept(both, "fill")))

    def test_loans(self):
        rows = (("lend", "r", "p"),
                ("while", ("pos", "<", ("i", 0), ("n", 0)),
                 (("lend", "s", "r"), ("write", "r", "i", 0, ("s", "i", 0, 0)), ("move", "i", ("i", 1)))))
        lent = Program((Function("f", arrays=(("full", "p", "n", "w"),), loans=(("full", "r", "n"), ("look", "s", "n")),
                                 places=("i",), rows=rows, notes=((),)),))
        self.assertEqual(
            [(2, 5), (("look", "s"), ("full", "r")), (("empty", "r"), ("empty", "s")),
             (("empty", "s"), ("held", "r"), ("into", "r", "p"))],
            [next_rows(lent, "f", 1), uses(lent, "f", 3), first_state(lent, "f"),
             behind(lent, "f", 0, first_state(lent, "f"))])
        table = Table(lent, "f")
        self.assertEqual(
            [(("held", "r"), ("held", "s"), ("into", "r", "p"), ("into", "s", "p"), ("into", "s", "r")), True, True, (),
             "table of f: 34 facts, 0 faults"],
            [table.state(3), table.state(5) == table.state(1), table.has(1, ("ended", "s")), table.faults, str(table)])
        self.assertEqual(
            [(0, 1, 2, 3, 4), ("r",), ((("r", "p"),),), (("r", "p"),), None],
            [walk_to(lent, "f", 1, fact=("ended", "s")), wanted(lent, "f", 0), shapes(lent, "f", 0),
             shape_of(lent, "f", 0, (0,)), faulty_walk(lent, "f")])

    def test_runs(self):
        two = Function("two", arrays=(("full", "a", "n", "aa"), ("full", "b", "n", "bb")),
                       rows=(("write", "a", "", 0, ("", 1)), ("write", "b", "", 1, ("", 2))))
        outer = Function("twice", arrays=(("full", "c", "m", "cc"),), loans=(("full", "r", "m"),),
                         rows=(("lend", "r", "c"), ("call", "two", ("r", "c"), (), ())))
        shared = Program((two, outer))
        zeros = Situation(outer.start_frame, {"c": (0, 0)}, {}, {})
        self.assertEqual(
            [("fault", "twice", 1, ("argument", 0), 1), 3, 0],
            [outcome(shared, "twice", zeros), parting(shared, "twice", zeros),
             outcome(shared, "twice", zeros, copying=True, careless=True)[1].cell("c", 0)])
        run = Run(shared, "twice", zeros, careless=True)
        self.assertEqual(
            [("twice", 0), ("twice", 1), "two", 0, ("two", 0), 1, "run in two at 1: 3 steps", 1, 2],
            [run.advance(), run.advance(), run.inner, run.place_of("b"), run.advance(), run.situation.cell("b", 0),
             str(run), run.advance_on(), run.situation.cell("c", 1)])


if __name__ == "__main__":
    unittest.main()
