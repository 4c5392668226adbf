"""Part 2c: trees."""

import random
import unittest

from lentcells.base.frames import Frame
from lentcells.errors import InvalidNumber, InvalidOperation, InvalidQuestion, NothingToUndo
from lentcells.solve.questions import Question
from lentcells.solve.steps import added_by
from lentcells.solve.trees import Closing, facts_at, is_tree
from lentcells.world.looking import first_failure
from lentcells.world.meaning import Meaning
from samples import BROKEN, FRAME, JUNK, LONG, NEXT, SIXTY, UPTO, WIDE, Maker, deep_junk, with_lists, with_trues

I, J, Q, ZERO = ("i", 0), ("j", 0), ("q", 0), ("", 0)
NO = ("or", ())
YES = ("and", ())
# What NEXT follows by, made step by step: q is a position at which the wanted all is false.
STEPS = (
    ("new", 3, ("q",)), ("part", 4, 0), ("part", 4, 1), ("apart", Q, ("i", 1)), ("use", 1, (Q,)), ("cases", 9),
    ("cases", 10), ("ring", ((11, 0), (6, 0))), ("ring", ((11, 0), (8, 0))), ("ring", ((5, 0), (10, 0))),
    ("ring", ((8, 0), (7, 0))), ("same", "a", 8), ("ring", ((5, 0), (9, 0), (2, 0))),
)


def position(op, one, other):
    """A position atom."""
    return ("pos", op, one, other)


def closing_by(question, steps):
    """A closing with these steps, each a tuple of a method's name and its arguments."""
    closing = Closing(question)
    for step in steps:
        getattr(closing, step[0])(*step[1:])
    return closing


def state(closing):
    """All that a closing tells."""
    facts = closing.facts if closing.open_nodes else None
    return facts, closing.open_nodes, len(closing), str(closing), bool(closing), closing.tree if bool(closing) else None


TREE = closing_by(NEXT, STEPS).tree


class TreeTest(unittest.TestCase):
    """is_tree and facts_at."""

    def trees(self, question, *values):
        for value in values:
            self.assertIs(True, is_tree(question, value), value)

    def no_trees(self, question, *values):
        for value in values:
            self.assertIs(False, is_tree(question, value), repr(value)[:300])

    def follows(self, given, wanted, *nodes, frame=FRAME):
        question = Question(frame, given, wanted)
        self.trees(question, nodes)
        self.no_trees(question, *with_lists(nodes))
        self.no_trees(question, *with_trues(nodes))
        self.no_trees(question, (*nodes, nodes[-1]), nodes[:-1], tuple(nodes[::-1]) if len(nodes) > 1 else ())
        return question

    def test_next(self):
        self.trees(NEXT, TREE)
        self.no_trees(NEXT, *with_trues(TREE))
        self.no_trees(NEXT, *with_lists(TREE))
        self.no_trees(BROKEN, TREE)
        self.no_trees(NEXT.without_given(1), TREE)
        self.no_trees(NEXT.with_given(YES), TREE)
        self.assertEqual(14, len(TREE) + 1)

    def test_junk(self):
        self.no_trees(NEXT, *JUNK, deep_junk(), (deep_junk(),), ((),), (None,), (("ring",),), (("ring", ()),),
                      (("part",),),
                      (("new", 3, ("q",), 1),), (("none", 0, 1),), ((["ring"], ()),), ((1, 2),), (("ring", ((0, 0),)),))
        for question in (None, BROKEN.facts, str(NEXT), FRAME):
            with self.assertRaises(InvalidQuestion):
                is_tree(question, TREE)
            with self.assertRaises(InvalidQuestion):
                facts_at(question, None, None)
            with self.assertRaises(InvalidQuestion):
                Closing(question)

    def test_part(self):
        apart = (position("<", I, J), position("<", J, I))
        self.follows((("and", apart),), NO, ("part", 1, 0, 1), ("part", 1, 1, 2), ("ring", ((3, 0), (4, 0))))
        question = self.follows((), ("or", (("not", apart[0]), ("not", apart[1]))), ("part", 1, 0, 1),
                                ("part", 2, 0, 2),
                                ("part", 1, 1, 3), ("part", 4, 0, 4), ("ring", ((5, 0), (3, 0))))
        # A node that names itself, and one that none names.
        closed = (("ring", ((0, 0),)),)
        twice = Question(FRAME, (position("<", I, I), ("and", apart)), NO)
        self.trees(twice, (("ring", ((1, 0),)),))
        self.no_trees(twice, (("ring", ((1, 0),)), ("part", 2, 0, 1)), (("ring", ((1, 0),)), ("ring", ((1, 0),))),
                      closed)
        self.no_trees(question, (("part", 1, 0, 1), ("part", 2, 1, 2), ("part", 1, 1, 3), ("part", 4, 0, 4),
                                 ("ring", ((5, 0), (3, 0)))))
        question = Question(FRAME, (("and", apart), ("not", ("and", apart)), ("or", apart), YES, apart[0]), NO)
        for fact, index in ((1, 2), (1, -1), (1, None), (1, True), (1, LONG), (2, 0), (3, 0), (4, 0), (5, 0), (6, 0),
                            (7, 0),
                            (-1, 0), ("1", 0), (None, 0), (1, (0,))):
            with self.assertRaises(InvalidOperation, msg=repr((fact, index))):
                Closing(question).part(fact, index)

    def test_cases(self):
        low, high = position("<", I, ("i", -1)), position("<", J, ("j", -1))
        self.follows((("or", (low, high)),), NO, ("cases", 1, (1, 2)), ("ring", ((3, 0),)), ("ring", ((3, 0),)))
        self.follows((NO,), position("<=", I, J), ("cases", 1, ()))
        self.follows((("not", YES),), position("<=", I, J), ("cases", 1, ()))
        self.follows((), ("and", (("not", low), ("not", high))), ("cases", 1, (1, 3)), ("part", 2, 0, 2),
                     ("ring", ((3, 0),)),
                     ("part", 2, 0, 4), ("ring", ((3, 0),)))
        self.follows((position("<=", I, J), position("<=", J, I)), position("==", I, J), ("cases", 3, (1, 2)),
                     ("ring", ((4, 0), (2, 0))), ("ring", ((4, 0), (1, 0))))
        x, cell = ("x", 0), ("a", "i", 0, 0)
        self.follows((("val", "<=", x, cell), ("val", "<=", cell, x)), ("val", "==", x, cell), ("cases", 3, (1, 2)),
                     ("ring", ((4, 0), (2, 0))), ("ring", ((4, 0), (1, 0))))
        question = Question(FRAME, (position("==", I, J), ("and", (low,)), ("not", ("or", (low,))), low, ("not", low),
                                    UPTO), NO)
        for fact in (0, 1, 2, 3, 4, 5, 6, 7, 8, -1, None, True, "1", LONG):
            with self.assertRaises(InvalidOperation):
                Closing(question).cases(fact)

    def test_case_numbers(self):
        low, high = position("<", I, ("i", -1)), position("<", J, ("j", -1))
        question = Question(FRAME, (("or", (low, high)),), NO)
        ring = ("ring", ((3, 0),))
        self.trees(question, (("cases", 1, (1, 2)), ring, ring), (("cases", 1, (2, 1)), ring, ring))
        self.no_trees(question, (("ring", ((0, 0),)), ("part", 1, 0, 1)),
                      (("cases", 1, (1, 2)), ring, ring, ("cases", 1, (3, 4))),
                      (("cases", 1, (1, 1)), ring), (("cases", 1, (1,)), ring), (("cases", 1, (1, 2)), ring),
                      (("cases", 1, (1, 2, 3)), ring, ring, ring), (("cases", 1, (0, 1)), ring),
                      (("cases", 1, (1, 3)), ring, ring, ring), (("cases", 1, 1), ring),
                      (("cases", 1, (1, "2")), ring, ring),
                      (("cases", 1, (1, 2)), ring, ring, ring), (("cases", 1, (1, -1)), ring),
                      (ring, ("cases", 1, (0, 2)), ring))

    def test_new(self):
        bounds = (("pos", "<=", I, ("k", 0)), ("pos", "<=", ("k", 0), ("i", -1)))
        self.follows((), ("all", ("k",), ("and", bounds), ("or", ())), ("new", 1, ("q",), 1), ("part", 2, 0, 2),
                     ("part", 2, 1, 3), ("ring", ((4, 0), (5, 0))))
        pair = ("all", ("p", "q"), ("and", (("pos", "==", ("p", 0), ("q", 0)),)), ("val", "<=", ("a", "p", 0, 0),
                                                                                ("a", "q", 0, 0)))
        question = self.follows((), pair, ("new", 1, ("q", "p"), 1), ("part", 2, 0, 2), ("same", "a", 4, 3),
                                ("ring", ((3, 0), (5, 0))))
        self.assertEqual(("not", ("val", "<=", ("a", "q", 0, 0), ("a", "p", 0, 0))), facts_at(question, (
            ("new", 1, ("q", "p"), 1), ("part", 2, 0, 2), ("same", "a", 4, 3), ("ring", ((3, 0), (5, 0)))), 1)[3])
        question = question.with_given(UPTO).with_given(("not", UPTO))
        for fact, names in ((3, ("q",)), (3, ("q", "q")), (3, ("q", "i")), (3, ("q", "x")), (3, ("q", "a")),
                            (3, ("q", "n")),
                            (3, ("q", "")), (3, ("q", "Q")), (3, ("q", "*1")), (3, ["q", "p"]), (3, "qp"), (3, None),
                            (3, ("q", 1)), (3, ("q", ["p"])), (3, ("q", "p", "r")), (2, ("q", "p")), (1, ("q",)),
                            (0, ("q",)),
                            (2, ()), (4, ("q", "p")), (-1, ("q", "p")), (None, ("q", "p")), (3, ())):
            with self.assertRaises(InvalidOperation, msg=repr((fact, names))):
                Closing(question).new(fact, names)

    def test_names_are_new_on_the_way(self):
        question = Question(FRAME, (("not", UPTO),), ("and", (UPTO, UPTO)))
        closing = Closing(question)
        closing.new(1, ("q",))
        for names in (("q",), ("i",)):
            with self.assertRaises(InvalidOperation):
                closing.new(1, names)
        closing.new(1, ("k",))
        closing.cases(2)
        closing.new(7, ("r",))
        # A name that was made behind one case can be made again behind another one, but is no name there before.
        low = position("<", I, ("i", -1))
        twice = Question(FRAME, (("or", (("not", UPTO), ("not", UPTO))), low), NO)
        tree = (("cases", 1, (1, 2)), ("new", 4, ("q",), 3), ("new", 4, ("q",), 4), ("ring", ((2, 0),)),
                ("ring", ((2, 0),)))
        self.trees(twice, tree)
        for terms, told in (((("q", 1),), True), ((("r", 0),), False)):
            question = twice.with_given(UPTO)
            tree = (("cases", 1, (1, 2)), ("new", 5, ("q",), 3), ("ring", ((2, 0),)), ("at", 3, terms, 4),
                    ("ring", ((2, 0),)))
            self.assertIs(told, is_tree(question, tree))
            tree = (("cases", 1, (1, 2)), ("new", 5, ("q",), 3), ("at", 3, terms, 4), ("ring", ((2, 0),)),
                    ("ring", ((2, 0),)))
            self.no_trees(question, tree)

    def test_at(self):
        guard = ("pos", "==", ("k", 0), I)
        every = ("all", ("k",), guard, ("val", "<", ("a", "k", 0, 0), ("a", "k", 0, 0)))
        nodes = (("at", 1, (I,), 1), ("cases", 3, (2, 5)), ("cases", 4, (3, 4)), ("ring", ((5, 0),)),
                 ("ring", ((5, 0),)),
                 ("ring", ((4, 0),)))
        self.follows((every,), NO, *nodes)
        question = Question(FRAME, (every, ("not", UPTO)), UPTO)
        for fact, terms in ((1, ()), (1, (I, I)), (1, [I]), (1, (["i", 0],)), (1, (Q,)), (1, (("x", 0),)),
                            (1, (("k", 0),)),
                            (1, (("i", True),)), (1, (("i", LONG),)), (1, None), (1, I), (1, (None,)), (0, (I,)),
                            (2, (I,)),
                            (3, (I,)), (4, (I,)), (-1, (I,)), (None, (I,)), (1, (("*1", 0),)),
                            (1, (("a", "i", 0, 0),))):
            with self.assertRaises(InvalidOperation, msg=repr((fact, terms))):
                Closing(question).use(fact, terms)
        closing = closing_by(question, (("use", 1, (("n", SIXTY),)), ("new", 3, ("q",)), ("use", 1, (("q", -2),))))
        self.assertEqual(("or", (("not", ("pos", "==", ("q", -2), I)),
                                 ("val", "<", ("a", "q", -2, 0), ("a", "q", -2, 0)))), closing.facts[-1])

    def test_own_names_can_be_made_names(self):
        pair = ("all", ("p", "q"), ("pos", "<=", ("p", 0), ("q", 0)), ("val", "<", ("a", "p", 0, 0), ("a", "q", 0, 1)))
        question = Question(FRAME, (("not", UPTO), pair), NO)
        closing = closing_by(question, (("new", 1, ("p",)), ("new", 1, ("q",)), ("use", 2, (("q", 1), ("p", 2)))))
        self.assertEqual(("or", (("not", ("pos", "<=", ("q", 1), ("p", 2))),
                                 ("val", "<", ("a", "q", 1, 0), ("a", "p", 2, 1)))), closing.facts[-1])

    def test_apart(self):
        given = (("or", ()),)
        self.follows(given, NO, ("apart", I, ("n", -3), (1, 2, 3)), ("cases", 1, ()), ("cases", 1, ()),
                     ("cases", 1, ()))
        question = Question(FRAME, given, NO)
        closes = ("cases", 1, ())
        tree = (("apart", I, J, (3, 1, 2)), closes, closes, closes)
        self.assertEqual([position("<", J, I), position("==", I, J), position("<", I, J)],
                         [facts_at(question, tree, node)[-1] for node in (1, 2, 3)])
        self.no_trees(question, (("apart", I, J, (1, 2)), closes, closes), (("apart", I, J, 1), closes),
                      (("apart", I, J, (1, 2, 3, 4)), closes, closes, closes, closes))
        for pair in ((I, Q), (Q, I), (I, ("x", 0)), (I, ("a", "i", 0, 0)), (I, None), (["i", 0], I), (I, ("j", True)),
                     (I, ("j", LONG)), ("i", "j"), (I, ("*1", 0))):
            with self.assertRaises(InvalidOperation):
                Closing(question).apart(*pair)

    def test_same(self):
        cell, other = ("a", "i", 1, 0), ("a", "j", -1, 0)
        given = (position("==", ("i", 1), ("j", -1)), ("val", "<", cell, other))
        question = self.follows(given, NO, ("same", "a", 1, 1), ("ring", ((2, 0), (4, 1))))
        self.assertEqual(("val", "==", cell, other), facts_at(question,
                                                              (("same", "a", 1, 1), ("ring", ((2, 0), (4, 1)))), 1)[4])
        question = Question(WIDE, (position("==", I, J), position("<=", I, J), ("not", position("==", I, J)),
                                   ("val", "==", ("x", 0), ("y", 0))), NO)
        self.assertEqual(("val", "==", ("c", "i", 0, 0), ("c", "j", 0, 0)),
                         closing_by(question, (("same", "c", 2),)).facts[-1])
        for array, fact in (("d", 2), ("n", 2), ("i", 2), ("", 2), (None, 2), (["a"], 2), ("a", 3), ("a", 4), ("a", 5),
                            ("a", 0), ("a", 9), ("a", -5), ("a", True), ("a", None), (1, 2)):
            with self.assertRaises(InvalidOperation):
                Closing(question).same(array, fact)

    def test_outside(self):
        cell = ("a", "i", 2, 0)
        self.follows((position("<", ("i", 2), ZERO), ("val", "<", ZERO, cell)), NO, ("outside", "a", 1, 1),
                     ("ring", ((2, 0), (4, 0))))
        self.follows((position("<", ("n", -1), ("i", 2)), ("val", "<", cell, ZERO)), NO, ("outside", "a", 1, 1),
                     ("ring", ((2, 0), (4, 1))))
        given = (position("<", ("n", -1), ("m", 3)), position("<", ("m", -1), ("i", 0)), position("<", ("n", -1), ZERO),
                 position("<=", I, ("", -1)), position("<", I, ("", -1)), position("<", ("n", 0), I),
                 ("not", position("<", I, ZERO)), position("==", I, ZERO), ("val", "<", ("x", 0), ZERO))
        question = Question(WIDE, given, NO)
        for array, fact, term in (("a", 2, ("m", 3)), ("b", 2, ("m", 3)), ("c", 3, I), ("a", 4, ("n", -1)),
                                  ("c", 4, ("n", -1))):
            self.assertEqual(("val", "==", (array, *term, 0), ZERO), closing_by(question,
                                                                                (("outside", array, fact),)).facts[-1])
        for array, fact in (("c", 2), ("a", 3), ("a", 5), ("a", 6), ("a", 7), ("a", 8), ("a", 9), ("a", 10), ("a", 0),
                            ("a", 11),
                            ("a", 12), ("d", 4), ("n", 4), ("i", 4), (None, 4), (["a"], 4), ("a", -8), ("a", None)):
            with self.assertRaises(InvalidOperation, msg=repr((array, fact))):
                Closing(question).outside(array, fact)

    def test_ring(self):
        given = (position("<", I, J), position("<=", J, I), ("not", position("<", J, I)), ("not", position("<=", I, J)),
                 position("==", I, J), position("<", I, I), ("val", "<", ("x", 0), ZERO), position("<=", ZERO, I),
                 position("<=", I, ZERO), ("val", "<=", ZERO, ("x", 0)), ("not", position("==", I, J)))
        question = Question(FRAME, given, NO)
        for steps in (((1, 0), (2, 0)), ((2, 0), (1, 0)), ((1, 0), (4, 0)), ((3, 0), (4, 0)), ((4, 0), (3, 0)),
                      ((1, 0), (5, 1)),
                      ((5, 0), (4, 0)), ((6, 0),), ((6, 0), (6, 0)), ((1, 0), (2, 0), (1, 0), (2, 0)),
                      ((7, 0), (10, 0)),
                      ((6, 0), (5, 0), (5, 1))):
            self.trees(question, (("ring", steps),))
            self.assertEqual(0, Closing(question).ring(steps))
        for steps in ((), ((1, 0),), ((1, 0), (3, 0)), ((2, 0), (3, 0)), ((5, 0), (5, 1)), ((1, 0), (5, 0)),
                      ((1, 0), (5, 2)),
                      ((1, 0), (2, 1)), ((1, 0), (2, -1)), ((1, 0), (2, False)), ((True, 0), (2, 0)), ((1, 0), [2, 0]),
                      [(1, 0), (2, 0)], ((1, 0), (2,)), ((1, 0), (2, 0, 0)), ((1, 0), None), None, (1, 0), ((11, 0),),
                      ((12, 0),),
                      ((13, 0), (1, 0)), ((-7, 0),), ((0, 0),), ((8, 0), (7, 0), (10, 0), (9, 0)), ((7, 0), (9, 0)),
                      ((1, 0), (2, None)),
                      ((8, 0), (9, 0)), ((7, 0), (8, 0), (9, 0)), ("ab",), ((1, 0), (2, 0), (6, 0), (1, 0))):
            self.no_trees(question, (("ring", steps),))
            with self.assertRaises(InvalidOperation, msg=repr(steps)):
                Closing(question).ring(steps)

    def test_positions_and_values_are_not_mixed(self):
        # The number 0 is a point of both kinds.
        given = (position("<", I, ZERO), position("<=", ZERO, I), ("val", "<", ("x", 0), ZERO),
                 ("val", "<=", ZERO, ("x", 0)),
                 position("<=", ("", 1), ZERO), ("val", "<=", ZERO, ZERO))
        question = Question(FRAME, given, NO)
        self.trees(question, (("ring", ((1, 0), (2, 0))),), (("ring", ((3, 0), (4, 0))),), (("ring", ((5, 0),)),))
        self.no_trees(question, (("ring", ((5, 0), (6, 0))),), (("ring", ((6, 0), (5, 0))),),
                      (("ring", ((1, 0), (6, 0), (2, 0))),))

    def test_other_numbers(self):
        # The nodes of TREE, the next ones of node 3 in another order: a next one only has to be higher.
        self.assertEqual((4, 5, 6), TREE[3][3])
        moved = {4: 6, 5: 4, 6: 5}
        spread = {old: moved.get(old, old) for old in range(len(TREE))}

        def renumbered(node):
            if node[0] == "ring":
                return node
            if isinstance(node[-1], tuple):
                return (*node[:-1], tuple(spread[number] for number in node[-1]))
            return (*node[:-1], spread[node[-1]])

        nodes = {spread[old]: renumbered(node) for old, node in enumerate(TREE)}
        other = tuple(nodes[number] for number in range(len(TREE)))
        self.assertNotEqual(TREE, other)
        self.trees(NEXT, other)
        for old, new in spread.items():
            self.assertEqual(facts_at(NEXT, TREE, old), facts_at(NEXT, other, new))

    def test_facts_that_are_not_known_yet(self):
        self.no_trees(NEXT, (("part", 4, 0, 1), ("new", 3, ("q",), 2), *TREE[2:]))
        spoilt = list(TREE)
        spoilt[10] = ("ring", ((12, 0), (6, 0)))
        self.no_trees(NEXT, tuple(spoilt))
        # A fact of another case is none here.
        spoilt = list(TREE)
        spoilt[5] = ("ring", ((9, 0), (7, 0)))
        self.no_trees(NEXT, tuple(spoilt))

    def test_changed_numbers(self):
        def changed(value):
            if isinstance(value, int):
                return [value - 1, value + 1, None]
            if not isinstance(value, tuple):
                return []
            return [value[:at] + (made,) + value[at + 1:] for at, part in enumerate(value) for made in changed(part)]

        accepted = [value for value in changed(TREE) if is_tree(NEXT, value)]
        self.assertLess(len(accepted), 3)

    def test_facts_at(self):
        self.assertEqual(NEXT.facts, facts_at(NEXT, TREE, 0))
        self.assertEqual(NEXT.facts + (
            ("and", (("pos", "<=", ZERO, Q), ("pos", "<=", Q, ("i", 1)))),
            ("not", ("val", "<=", ("a", "q", 0, 0), ("x", 0)))),
            facts_at(NEXT, TREE, 1))
        self.assertEqual(12, len(facts_at(NEXT, TREE, 11)))
        self.assertEqual(("not", ("pos", "<=", Q, I)), facts_at(NEXT, TREE, 11)[11])
        self.assertEqual(position("==", Q, ("i", 1)), facts_at(NEXT, TREE, 6)[-1])
        for tree in (None, TREE[:-1], list(TREE), ()):
            with self.assertRaises(InvalidOperation):
                facts_at(NEXT, tree, None)
        for node in (-1, 13, True, None, "0", LONG, (0,)):
            with self.assertRaises(InvalidNumber) as caught:
                facts_at(NEXT, TREE, node)
            self.assertIs(node, caught.exception.number)

    def test_deep_trees(self):
        low = position("<", I, ("i", -1))
        question = Question(FRAME, (("and", (low,)),), NO)
        many = 5000
        tree = tuple(("part", 1, 0, at + 1) for at in range(many)) + (("ring", ((many + 2, 0),)),)
        self.trees(question, tree)
        self.assertEqual(many + 3, len(facts_at(question, tree, many)))
        self.no_trees(question, tree[:-1] + (("ring", ((many + 3, 0),)),))

    def test_broken_questions_have_no_trees(self):
        for tree in (TREE, TREE[:1]):
            self.no_trees(BROKEN, tree)
            self.no_trees(Question(FRAME, (), NO), tree)


class TruthTest(unittest.TestCase):
    """What a step adds is true for one of its next ones, wherever the facts are true."""

    def step(self, maker, facts, made):
        frame, chance = maker.frame, maker.random
        terms = [("", 0), ("", 1)] + [(word, more) for word in frame.positions + frame.lengths + tuple(made)
                                      for more in (-1, 0, 1)]
        fact = chance.randrange(len(facts))
        words = [word for word in ("q", "r", "s", "t", "u", "v") if word not in made and frame.is_fresh(word)]
        kind = chance.choice(("part", "cases", "new", "at", "apart", "same", "outside", "ring"))
        if kind == "part":
            return (kind, fact, chance.randrange(3))
        if kind == "cases":
            return (kind, fact)
        if kind == "new":
            return (kind, fact, tuple(words[:chance.choice((1, 2))]))
        if kind == "at":
            return (kind, fact, tuple(chance.choice(terms) for _ in range(chance.choice((1, 2)))))
        if kind == "apart":
            return (kind, chance.choice(terms), chance.choice(terms))
        if kind in ("same", "outside"):
            return (kind, chance.choice(frame.arrays)[0], fact)
        many = chance.choice((1, 2))
        return (kind, tuple((chance.randrange(len(facts)), chance.choice((0, 0, 1))) for _ in range(many)))

    def test_random_steps(self):
        seen = {}
        for seed, frame in enumerate((FRAME, Frame((("a", "n"), ("b", "m")), ("i",), ("x",)))):
            maker = Maker(frame, random.Random(seed), 1)
            for _ in range(250):
                question = Question(frame, tuple(maker.claim() for _ in range(2)), maker.claim())
                situation = maker.situation(3, 2)
                if question.is_broken_by(situation):
                    self.walk(maker, question, situation, seen)
        for kind in ("part", "cases", "new", "at", "apart", "same", "outside"):
            self.assertGreater(seen.get(kind, 0), 20, kind)

    def walk(self, maker, question, situation, seen):
        numbers = {"": 0, **situation.positions, **situation.lengths}
        facts, made = list(question.facts), []
        for _ in range(400):
            step = self.step(maker, facts, made)
            added = added_by(maker.frame, facts, made, step)
            if added is None:
                continue
            seen[step[0]] = seen.get(step[0], 0) + 1
            meaning = Meaning(situation.rows, numbers, {"": 0, **situation.amounts})
            if step[0] == "new":
                at = first_failure(meaning, facts[step[1]][1])
                numbers.update(zip(step[2], at))
                made.extend(step[2])
                meaning = Meaning(situation.rows, numbers, {"": 0, **situation.amounts})
            true = [case for case in added if all(meaning.holds(fact) for fact in case)]
            self.assertNotEqual([], true, (question.claims, question.goal, str(situation), facts, step))
            facts.extend(maker.random.choice(true))


class ClosingTest(unittest.TestCase):
    """Closing."""

    def test_begin(self):
        closing = Closing(NEXT)
        self.assertEqual((NEXT.facts, (0,), 0, "closing with 0 nodes, 1 open", False, None), state(closing))

    def test_order(self):
        closing = Closing(NEXT)
        numbers, opened = [], []
        for step in STEPS:
            numbers.append(getattr(closing, step[0])(*step[1:]))
            opened.append(closing.open_nodes)
        self.assertEqual([0, 1, 2, 3, 4, 7, 8, 10, 11, 9, 5, 6, 12], numbers)
        self.assertEqual([(1,), (2,), (3,), (4, 5, 6), (5, 6, 7), (5, 6, 8, 9), (5, 6, 9, 10, 11), (5, 6, 9, 11),
                          (5, 6, 9),
                          (5, 6), (6,), (12,), ()], opened)
        self.assertTrue(bool(closing))
        self.assertEqual("closing with 13 nodes, 0 open", str(closing))
        self.assertTrue(is_tree(NEXT, closing.tree))

    def test_facts_and_tree(self):
        closing = Closing(NEXT)
        for at, step in enumerate(STEPS):
            here = closing.facts
            with self.assertRaises(InvalidOperation):
                self.assertIsNone(closing.tree)
            number = getattr(closing, step[0])(*step[1:])
            self.assertEqual(facts_at(NEXT, TREE, number), here)
        with self.assertRaises(InvalidOperation):
            self.assertIsNone(closing.facts)
        self.assertEqual(TREE, closing.tree)

    def test_wrong_steps_have_no_effect(self):
        wrong = (("part", 4, 2), ("part", 1, 0), ("cases", 1), ("cases", None), ("new", 3, ("i",)), ("new", 3, ["r"]),
                 ("use", 1, (("r", 0),)), ("use", 3, (I,)), ("apart", I, ("r", 0)), ("same", "a", 1),
                 ("outside", "a", 0),
                 ("ring", ()), ("ring", ((0, 0),)), ("ring", [(0, 0)]), ("part", True, 0))
        closing = Closing(NEXT)
        for step in STEPS:
            before = state(closing)
            for other in wrong:
                with self.assertRaises(InvalidOperation, msg=repr(other)):
                    getattr(closing, other[0])(*other[1:])
            self.assertEqual(before, state(closing))
            getattr(closing, step[0])(*step[1:])
        before = state(closing)
        for other in STEPS + wrong:
            with self.assertRaises(InvalidOperation):
                getattr(closing, other[0])(*other[1:])
        self.assertEqual(before, state(closing))

    def test_undo(self):
        for done in range(len(STEPS) + 1):
            closing = closing_by(NEXT, STEPS[:done])
            for many in range(done + 1):
                other = closing_by(NEXT, STEPS[:done])
                left = closing_by(NEXT, STEPS[:done - many])
                self.assertEqual(len(left.open_nodes), other.undo(many=many))
                self.assertEqual(state(left), state(other))
                self.assertTrue(left == other)
            for many in (done + 1, done + 100, SIXTY):
                with self.assertRaises(NothingToUndo) as caught:
                    closing.undo(many=many)
                self.assertEqual(many, caught.exception.asked)
            for many in (-1, True, False, None, "1", LONG, -LONG, (1,), [1], FRAME):
                with self.assertRaises(InvalidNumber) as caught:
                    closing.undo(many=many)
                self.assertIs(many, caught.exception.number)
            self.assertTrue(closing_by(NEXT, STEPS[:done]) == closing)
        with self.assertRaises(NothingToUndo):
            Closing(NEXT).undo()
        closing = closing_by(NEXT, STEPS)
        self.assertEqual(1, closing.undo())
        self.assertEqual(12, closing.ring(((5, 0), (9, 0), (2, 0))))

    def test_undo_and_go_on(self):
        closing = closing_by(NEXT, STEPS[:9])
        closing.undo(many=5)
        self.assertEqual((("q", 0), ("i", 1)), closing.facts[-1][2:])
        for step in STEPS[4:]:
            getattr(closing, step[0])(*step[1:])
        self.assertEqual(TREE, closing.tree)

    def test_twin(self):
        closing = closing_by(NEXT, STEPS[:6])
        twin = closing.twin()
        self.assertTrue(closing == twin)
        self.assertEqual(state(closing), state(twin))
        before = state(closing)
        for step in STEPS[6:]:
            getattr(twin, step[0])(*step[1:])
        self.assertEqual(before, state(closing))
        self.assertEqual(TREE, twin.tree)
        self.assertFalse(closing == twin)
        closing.undo(many=6)
        self.assertEqual(TREE, twin.tree)

    def test_equality(self):
        closing = closing_by(NEXT, STEPS[:3])
        self.assertTrue(closing == closing_by(Question(FRAME, NEXT.claims, NEXT.goal), STEPS[:3]))
        self.assertFalse(closing != closing_by(NEXT, STEPS[:3]))
        other = closing_by(NEXT, (("new", 3, ("r",)), *STEPS[1:3]))
        self.assertFalse(Closing(NEXT) == Closing(BROKEN))
        self.assertTrue(Closing(NEXT) != Closing(BROKEN))
        for value in (other, closing_by(NEXT, STEPS[:2]), Closing(BROKEN), str(closing), None, 3, (), [], NEXT, FRAME):
            self.assertFalse(closing == value)
            self.assertTrue(closing != value)
        with self.assertRaises(TypeError):
            iter(closing)

    def test_properties_can_not_be_set(self):
        for name in ("facts", "open_nodes", "tree"):
            with self.assertRaises(AttributeError):
                setattr(Closing(NEXT), name, ())

    def test_many_steps(self):
        low = position("<", I, ("i", -1))
        closing = Closing(Question(FRAME, (("or", (low, low)), ("and", (low,))), NO))
        for _ in range(1000):
            closing.cases(1)
        self.assertEqual(1001, len(closing.open_nodes))
        for _ in range(1001):
            closing.part(2, 0)
            closing.ring(((len(closing.facts) - 1, 0),))
        self.assertTrue(bool(closing))
        self.assertTrue(is_tree(Question(FRAME, (("or", (low, low)), ("and", (low,))), NO), closing.tree))


if __name__ == "__main__":
    unittest.main()
