"""Kept programs, and the papers that show whether programs are kept."""

import itertools
import unittest

from lentcells.code.functions import Function
from lentcells.code.programs import Program
from lentcells.decide.follows import breaking, follows, paper
from lentcells.errors import InvalidOperation, InvalidProgram, TooMany, UnknownName
from lentcells.loans.tables import Table, unsound
from lentcells.loans.trails import faulty_walk
from lentcells.pieces.kept import broken_questions, is_kept, is_kept_paper, is_program_kept, kept_paper
from lentcells.pieces.pieces import pieces
from lentcells.runs.breaks import first_break
from lentcells.solve.trees import is_tree
from lentcells.world.situations import Situation
from making import BOTH, FALSE, FILL, LENT, OUTER, SHARED, SPAN, TRUE, TWICE, TWO, Maker, one_function
from plain_pieces import with_contracts
from samples import JUNK, SHOWN, deep_junk, with_lists, with_trues

ZERO = ("", 0)
WEAK = BOTH.with_function(FILL.with_notes(0, SPAN))
# A function with a loop in which a loan is used behind a write, at the second coming of the row.
LATE = one_function(arrays=(("full", "a", "n", "w"),), loans=(("look", "r", "n"),), numbers=("y",), notes=((),), rows=(
    ("lend", "r", "a"), ("while", TRUE, (("keep", "y", ("r", "", 0, 0)), ("write", "a", "", 0, ZERO)))))
GREAT = ("pos", "<=", ("i", 5000), ZERO)
WIDE = ("or", tuple(("val", "<=", ("a", "i", number, 0), ZERO) for number in range(1, 16)))
MANY = (("if", TRUE, (), ()),) * 7


def plain(called="f", **passed):
    """A function with an array a and a position i."""
    return Function(called, arrays=(("full", "a", "n", "w"),), positions=("i",), **passed)


class KeptTest(unittest.TestCase):
    """Whether functions and programs are kept."""

    def test_of_the_document(self):
        self.assertIs(True, is_program_kept(BOTH))
        self.assertIs(True, is_kept(BOTH, "fill"))
        self.assertIs(True, is_kept(BOTH, "twice"))

    def test_each_function_by_itself(self):
        self.assertEqual([False, True, False], [is_kept(WEAK, "fill"), is_kept(WEAK, "twice"), is_program_kept(WEAK)])
        self.assertEqual([True, False], [is_kept(SHARED, "two") == follows_all(SHARED, "two"), is_kept(SHARED, "twice")])
        self.assertFalse(is_program_kept(SHARED))
        # A function that is not sound does not spoil the one that it calls, nor one that calls it.
        caller = Function("top", arrays=(("full", "d", "k", "dd"),), rows=(("call", "twice", ("d",), (), ()),))
        self.assertTrue(is_kept(SHARED.with_function(caller), "top"))

    def test_loans(self):
        self.assertIs(False, is_kept(LENT, "f"))
        at_least = ("pos", "<=", ZERO, ("i", 0))
        self.assertIs(True, is_kept(Program((LENT["f"].with_notes(0, (at_least,)),)), "f"))
        self.assertFalse(is_kept(LATE, "f"))

    def test_broken_questions(self):
        self.assertEqual((), broken_questions(BOTH, "fill"))
        # Without the first note the array is not known to be filled at the end; without the second one i can be below 0.
        self.assertEqual(((1, 0),), broken_questions(WEAK, "fill"))
        none = BOTH.with_function(FILL.with_notes(0, ()))
        self.assertEqual(((1, 0), (2, 0)), broken_questions(none, "fill"))
        both = BOTH.with_function(FILL.with_notes(0, (FALSE, TRUE, FALSE)).with_contract((), (FALSE,)))
        self.assertEqual(((0, 0), (0, 2)), broken_questions(both, "fill"))
        self.assertEqual((), broken_questions(WEAK, "twice"))
        for made, called in ((SHARED, "twice"), (LATE, "f")):
            with self.assertRaises(InvalidOperation):
                broken_questions(made, called)

    def test_they_hang_on_contracts_alone(self):
        # [6.7]
        other = BOTH.with_function(FILL.with_rows((), ()))
        self.assertEqual([False, True], [is_kept(other, "fill"), is_kept(other, "twice")])
        weaker = BOTH.with_function(FILL.with_contract((FALSE,), FILL.after))
        self.assertEqual([True, False], [is_kept(weaker, "fill"), is_kept(weaker, "twice")])

    def test_a_function_that_calls_itself(self):
        claim = ("val", "==", ("a", "", 0, 0), ("w", "", 0, 0))
        made = Program((plain(rows=(("call", "f", ("a",), (("i", 0),), ()),), after=(FALSE,)),))
        self.assertTrue(is_program_kept(made))
        made = Program((plain(rows=(("call", "f", ("a",), (("i", -1),), ()),), before=(("pos", "<", ZERO, ("i", 0)),), after=(claim,)),))
        self.assertEqual(((0, 0),), broken_questions(made, "f"))

    def test_parts_of_a_kept_program(self):
        # [6.7]
        self.assertTrue(is_program_kept(BOTH.without("twice")))
        renamed = BOTH.renamed({"fill": "a", "twice": "b"})
        self.assertTrue(is_program_kept(renamed))
        self.assertTrue(is_program_kept(renamed.with_function(renamed["a"].relabeled({"a": "x", "x": "a", "i": "old", "old": "i"}))))

    def test_kept_programs_break_no_claim(self):
        kept = 0
        for seed in range(900):
            maker = Maker(seed)
            made = with_contracts(maker, maker.program(maker.random.choice((1, 2)), maker.random.choice((2, 4, 6))))
            try:
                answers = [is_kept(made, called) for called in made.names]
                self.assertIs(all(answers), is_program_kept(made))
            except (TooMany, InvalidOperation):
                continue
            if not all(answers):
                continue
            kept += 1
            for called in made.names:
                for _ in range(5):
                    found = first_break(made, called, maker.situation(made[called].start_frame))
                    self.assertTrue(found is None or found[:2] == ("before", called), (seed, called, found))
        self.assertGreater(kept, 20)


def follows_all(made, called):
    """Whether all questions of all pieces of a function follow."""
    return all(follows(question) for piece in pieces(made, called) for kind, question in piece.questions())


class ErrorsTest(unittest.TestCase):
    """Errors, and their order."""

    ONE = (is_kept, broken_questions)
    ALL = (is_program_kept, kept_paper, lambda made: is_kept_paper(made, None))

    def test_wrong_programs_and_names(self):
        for value in JUNK + (deep_junk(), FILL):
            for call in self.ONE:
                with self.assertRaises(InvalidProgram):
                    call(value, None)
                with self.assertRaises(UnknownName) as caught:
                    call(SHARED, value)
                self.assertEqual(value, caught.exception.name)
            for call in self.ALL:
                with self.assertRaises(InvalidProgram):
                    call(value)

    def bound(self, call, *passed):
        with self.assertRaises(TooMany) as caught:
            call(*passed)
        return caught.exception.bound

    def test_errors_of_pieces(self):
        fine, many = plain("g"), plain("h", rows=MANY)
        writes = plain("k", rows=(("write", "a", "", 0, ZERO),) * 5)
        made = Program((fine, many, writes))
        for call in self.ONE:
            self.assertEqual(64, self.bound(call, made, "h"))
            self.assertEqual(4, self.bound(call, made, "k"))
            call(made, "g")
        for call in self.ALL:
            self.assertEqual(64, self.bound(call, made))
            self.assertEqual(4, self.bound(call, made.without("h")))
            call(made.without("h").without("k"))
        calls = plain("a", rows=(("call", "g", ("a",), (ZERO,), ()),) * 3)
        for call in self.ALL:
            self.assertEqual(2, self.bound(call, made.with_function(calls)))

    def test_great_questions(self):
        # The first question that has it decides, also where one ahead of it does not follow.
        for after, bound in (((FALSE, GREAT), 1000), ((FALSE, WIDE, GREAT), 16), ((GREAT, WIDE), 1000)):
            made = Program((plain("g", after=(FALSE,)), plain("h", after=after), plain("k", after=(WIDE,))))
            for call in self.ONE:
                self.assertEqual(bound, self.bound(call, made, "h"))
            for call in self.ALL[:2]:
                self.assertEqual(bound, self.bound(call, made))
            self.assertFalse(is_kept_paper(made, None))

    def test_errors_of_pieces_come_first(self):
        made = Program((plain("g", after=(GREAT,)), plain("h", rows=MANY)))
        for call in self.ALL:
            self.assertEqual(64, self.bound(call, made))
        self.assertEqual(1000, self.bound(is_kept, made, "g"))

    def test_programs_that_are_not_sound_ask_nothing(self):
        bad = Function("twice", arrays=OUTER.arrays, loans=OUTER.loans, rows=OUTER.rows + MANY)
        made = Program((TWO, bad, plain("h", rows=MANY), plain("k", after=(GREAT,))))
        self.assertEqual(("twice",), unsound(made))
        self.assertFalse(is_program_kept(made))
        self.assertEqual("faulty", kept_paper(made)[0])
        self.assertFalse(is_kept_paper(made, None))
        self.assertFalse(is_kept(made, "twice"))
        self.assertEqual([64, 1000], [self.bound(is_kept, made, called) for called in ("h", "k")])
        with self.assertRaises(InvalidOperation):
            broken_questions(made, "twice")

    def test_judging_great_questions(self):
        # No TooMany is raised where a paper is judged.
        made = Program((plain(after=(("pos", "<=", ("i", 5000), ("i", 5000)), GREAT)),))
        broken = Situation(pieces(made, "f")[0].frame, {"a": ()}, {"i": 1}, {})
        self.assertTrue(is_kept_paper(made, ("broken", "f", 0, 1, broken)))
        self.assertFalse(is_kept_paper(made, ("broken", "f", 0, 0, broken)))


class PaperTest(unittest.TestCase):
    """Papers, and judging them."""

    def check(self, made, form):
        """The paper of a program, which is right, and is none for another one."""
        told = kept_paper(made)
        self.assertEqual(form, told[0])
        self.assertTrue(is_kept_paper(made, told))
        self.assertIs(form == "kept", is_program_kept(made))
        self.assertEqual(told, kept_paper(made))
        return told

    def refuse(self, made, *values):
        for value in values:
            self.assertIs(False, is_kept_paper(made, value), value)

    def test_kept(self):
        word, tables, trees = self.check(BOTH, "kept")
        self.assertEqual(["fill", "twice"], list(tables))
        self.assertEqual(["fill", "twice"], list(trees))
        self.assertEqual({called: Table(BOTH, called).states for called in BOTH.names}, tables)
        for called in BOTH.names:
            for piece, found in zip(pieces(BOTH, called), trees[called], strict=True):
                for (kind, question), tree in zip(piece.questions(), found, strict=True):
                    self.assertTrue(is_tree(question, tree))
                    self.assertLessEqual(len(tree), 5000)

    def test_broken(self):
        word, called, at, index, situation = self.check(WEAK, "broken")
        self.assertIn((at, index), broken_questions(WEAK, called))
        question = pieces(WEAK, called)[at].questions()[index][1]
        self.assertTrue(question.is_broken_by(situation))
        self.assertLessEqual(max(situation.lengths.values()), question.few)

    def test_faulty(self):
        for made, called, walk in ((SHARED, "twice", (0, 1)), (LATE, "f", (0, 1, 2, 3, 1, 2))):
            self.assertEqual(("faulty", called, walk), self.check(made, "faulty"))
            self.assertEqual(walk, faulty_walk(made, called))

    def test_other_forms_are_refused(self):
        papers = [kept_paper(made) for made in (BOTH, WEAK, SHARED)]
        for made, other in itertools.product((BOTH, WEAK, SHARED), papers):
            self.assertIs(other == kept_paper(made), is_kept_paper(made, other))

    def test_values_of_every_kind(self):
        for made in (BOTH, WEAK, SHARED):
            told = kept_paper(made)
            self.refuse(made, *JUNK, deep_junk(), list(told), told[:-1], (*told, ()), (told,), (True, *told[1:]), told[1:])
            self.refuse(made, *[(word, *told[1:]) for word in ("kept", "broken", "faulty", "Kept", "", None, 0) if word != told[0]])
            for place in range(1, len(told)):
                for value in JUNK + (deep_junk(),):
                    other = (*told[:place], value, *told[place + 1:])
                    self.assertIs(other == told and not isinstance(value, bool), is_kept_paper(made, other))

    def test_walks(self):
        self.refuse(SHARED, ("faulty", "twice", ()), ("faulty", "twice", (0,)), ("faulty", "two", (0, 1)), ("faulty", "two", (0,)),
                    ("faulty", "twice", [0, 1]), ("faulty", "twice", (0, True)), ("faulty", "twice", (0, 1, 2)), ("faulty", "twice", (1,)))
        # Any walk whose last row has a fault, and no other one.
        right = (0, 1, 2, 3, 1, 2)
        self.assertTrue(is_kept_paper(LATE, ("faulty", "f", right)))
        self.refuse(LATE, ("faulty", "f", (0, 1, 2, 3, 1, 2, 3)), ("faulty", "f", (0, 1, 2, 3, 1, 2, 3, 1, 2)), ("faulty", "f", right[:-1]))
        loop = one_function(arrays=(("full", "a", "n", "w"),), loans=(("look", "r", "n"),), numbers=("y",), notes=((),),
                            rows=(("while", TRUE, ()), ("keep", "y", ("r", "", 0, 0))))
        for many in (1, 2, 399, 400, 700):
            self.assertTrue(is_kept_paper(loop, ("faulty", "f", (0,) * many + (1,))))

    def test_another_function_with_a_fault(self):
        bad = Function("bad", loans=(), arrays=OUTER.arrays, rows=(("call", "two", ("c", "c"), (), ()),))
        made = SHARED.with_function(bad)
        for told in (("faulty", "bad", (0,)), ("faulty", "twice", (0, 1))):
            self.assertTrue(is_kept_paper(made, told))

    def test_any_broken_question(self):
        made = BOTH.with_function(FILL.with_notes(0, ()))
        found = {called: [piece.questions() for piece in pieces(made, called)] for called in made.names}
        situations = [breaking(found["fill"][at][index][1]) for at, index in broken_questions(made, "fill")]
        for (at, index), situation in zip(broken_questions(made, "fill"), situations):
            self.assertTrue(is_kept_paper(made, ("broken", "fill", at, index, situation)))
            frame = situation.frame
            great = Situation(frame, {array: (10 ** 50,) * 40 for array, length in frame.arrays}, {"i": 99}, {"x": 0})
            question = found["fill"][at][index][1]
            self.assertIs(question.is_broken_by(great), is_kept_paper(made, ("broken", "fill", at, index, great)))
        self.refuse(made, ("broken", "fill", 1, 0, situations[1]), ("broken", "fill", 0, 0, situations[0]), ("broken", "fill", 2, 1, situations[0]),
                    ("broken", "fill", True, False, situations[0]), ("broken", "fill", -2, 0, situations[0]), ("broken", "fill", 1, -1, situations[0]),
                    ("broken", "twice", 1, 0, situations[0]), ("broken", "fill", 3, 0, situations[0]), ("broken", "fill", 1, 0, SHOWN),
                    ("broken", "fill", 1, 0, None), ("broken", "none", 1, 0, situations[0]), ("broken", ["fill"], 1, 0, situations[0]))

    def test_tables(self):
        word, tables, trees = kept_paper(BOTH)
        # A table with more facts that are closed, and without a fault, is right, too.
        made = one_function(arrays=(("full", "a", "n", "w"),), loans=(("look", "r", "n"),), rows=(("lend", "r", "a"), ("move", "j", ZERO)), places=("j",))
        told = kept_paper(made)
        states = told[1]["f"]
        more = tuple(tuple(sorted((*state, ("ended", "r")))) if at else state for at, state in enumerate(states))
        self.assertTrue(is_kept_paper(made, (told[0], {"f": states}, told[2])))
        self.assertTrue(is_kept_paper(made, (told[0], {"f": more}, told[2])))
        self.refuse(made, (told[0], {"f": more[:-1] + states[-1:]}, told[2]), (told[0], {"f": states[:-1]}, told[2]), (told[0], {"f": list(states)}, told[2]),
                    (told[0], {"f": (None, *states[1:])}, told[2]), (told[0], {"f": ((),) * len(states)}, told[2]))
        # This one has a fault, where the loan is used.
        state = tables["twice"][1]
        ended = tuple(tuple(sorted({*here, ("ended", "r")})) for here in tables["twice"])
        self.refuse(BOTH, ("kept", {**tables, "twice": ended}, trees), ("kept", {"fill": tables["fill"]}, trees), ("kept", {**tables, "more": ()}, trees),
                    ("kept", {**tables, "twice": tables["fill"]}, trees), ("kept", (), trees), ("kept", [tables], trees), ("kept", tables, tables))
        self.assertNotIn(("ended", "r"), state)

    def test_trees(self):
        word, tables, trees = kept_paper(BOTH)
        fill = trees["fill"]

        def told(value):
            return ("kept", tables, {**trees, "fill": value})

        self.assertTrue(is_kept_paper(BOTH, told(fill)))
        self.refuse(BOTH, told(fill[:-1]), told((*fill, ())), told(fill[::-1]), told(list(fill)), told(((), *fill[1:])), told((fill[0][::-1], *fill[1:])),
                    told((fill[0][:-1], *fill[1:])), told(((*fill[0], fill[0][0]), *fill[1:])), told((list(fill[0]), *fill[1:])), told(()), told(trees["twice"]),
                    ("kept", tables, {"fill": fill}), ("kept", tables, {**trees, "more": ()}), ("kept", tables, ()), ("kept", tables, tuple(trees.items())))
        tree = fill[1][0]
        for other in (tree[:-1], tree[1:], (*tree, tree[-1]), *with_trues(tree), *with_lists(tree)):
            self.refuse(BOTH, told((fill[0], (other,), *fill[2:])))

    def test_any_tree(self):
        # A tree with a node that is not needed.
        word, tables, trees = kept_paper(BOTH)
        kind, question = pieces(BOTH, "twice")[1].questions()[0]
        tree = trees["twice"][1][0]
        longer = [("apart", ZERO, ZERO, (1, 2, 3)), ("ring", ((known(question), 0),)), ("ring", ((known(question), 0),))]
        moved = [shifted_node(node, 3, known(question)) for node in tree]
        value = (*longer, *moved)
        self.assertTrue(is_tree(question, value))
        other = {**trees, "twice": (trees["twice"][0], (value, trees["twice"][1][1]))}
        self.assertTrue(is_kept_paper(BOTH, ("kept", tables, other)))

    def test_what_is_told_is_no_way_in(self):
        told = kept_paper(BOTH)
        told[1].pop("fill")
        told[2]["twice"] = ()
        self.assertNotEqual(told, kept_paper(BOTH))
        self.assertTrue(is_kept_paper(BOTH, kept_paper(BOTH)))

    def test_papers_of_great_programs(self):
        functions = [FILL.called_as(called) for called in ("f", "g", "h", "k", "l", "m")]
        told = self.check(Program(tuple(functions)), "kept")
        self.assertEqual(["f", "g", "h", "k", "l", "m"], list(told[1]))
        made = Program(tuple(functions[:5]) + (functions[5].with_notes(0, ()),))
        self.assertEqual("m", self.check(made, "broken")[1])

    def test_papers_are_those_of_questions(self):
        for called in BOTH.names:
            for piece in pieces(BOTH, called):
                for kind, question in piece.questions():
                    self.assertEqual("follows", paper(question)[0])

    def test_exactly_one_form(self):
        # [6.7], for random programs.
        forms = {}
        for seed in range(400):
            maker = Maker(seed)
            made = with_contracts(maker, maker.program(maker.random.choice((1, 2)), maker.random.choice((2, 4, 8))))
            try:
                told = kept_paper(made)
            except (TooMany, InvalidOperation):
                continue
            forms[told[0]] = forms.get(told[0], 0) + 1
            self.assertTrue(is_kept_paper(made, told))
            self.assertIs(told[0] == "kept", is_program_kept(made))
            self.assertIs(told[0] == "faulty", unsound(made) != ())
        self.assertEqual(["broken", "faulty", "kept"], sorted(forms))

    def test_names_play_no_part(self):
        # [6.7]
        self.assertTrue(is_program_kept(Program((TWICE.relabeled({"b": "c", "c": "b", "r": "wa", "m": "k"}), FILL))))


def known(question):
    """The number of the first fact that a node behind the question's own ones has."""
    return len(question.facts)


def shifted_node(node, more, first):
    """A node with other numbers: one more fact, and more nodes."""
    def fact(number):
        return number + 1 if number >= first else number
    kind = node[0]
    if kind == "ring":
        return (kind, tuple((fact(number), way) for number, way in node[1]))
    if kind in ("part", "at", "new"):
        return (kind, fact(node[1]), node[2], node[3] + more)
    if kind == "cases":
        return (kind, fact(node[1]), tuple(number + more for number in node[2]))
    raise AssertionError(kind)


if __name__ == "__main__":
    unittest.main()
