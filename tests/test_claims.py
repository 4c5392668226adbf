"""Part 1c: claims."""

import random
import unittest

from lentcells.base.frames import Frame
from lentcells.errors import InvalidClaim, InvalidFrame, InvalidOperation, InvalidTerm, UnknownName
from lentcells.logic.claims import (
    all_between, carried, inside_claim, is_claim, names_of, renamed_claim, replaced, used_at)
from lentcells.world.situations import Situation
from samples import (
    FRAME, JUNK, LONG, SIXTY, UPTO, WIDE, Maker, deep_junk, nested, plain_truth, with_lists, with_trues)

LESS = ("pos", "<", ("i", 1), ("n", 0))
SMALL = ("val", "<=", ("a", "i", 1, 0), ("x", 1))
LOW = ("pos", "<=", ("", 0), ("k", 0))
BODY = ("val", "==", ("a", "k", 0, 0), ("x", 0))
# The own names p and q are between 0 and i, and their cells are in order.
PAIR = ("all", ("p", "q"), ("and", (("pos", "<=", ("", 0), ("p", 0)), ("pos", "<=", ("p", 0), ("q", 0)),
                                    ("pos", "<=", ("q", 0), ("i", 1)))),
        ("val", "<=", ("a", "p", 0, 0), ("a", "q", 0, 1)))


def every(guard, body, own=("k",)):
    """An all with these parts."""
    return ("all", own, guard, body)


class ClaimTest(unittest.TestCase):
    """What a claim is."""

    def right(self, *claims):
        for claim in claims:
            self.assertIs(True, is_claim(FRAME, claim), claim)

    def wrong(self, *claims):
        for claim in claims:
            self.assertIs(False, is_claim(FRAME, claim), repr(claim)[:200])

    def test_atoms(self):
        for op in ("<=", "<", "=="):
            self.right(("pos", op, ("i", 0), ("n", -1)), ("val", op, ("x", 0), ("a", "n", -1, 2)))
        self.right(("pos", "<=", ("", SIXTY), ("", -SIXTY)), ("val", "<", ("a", "", -SIXTY, SIXTY), ("", 0)))

    def test_no_atoms(self):
        self.wrong(("pos", ">", ("i", 0), ("j", 0)), ("pos", ("i", 0), ("j", 0)), ("pos", "<=", ("i", 0)),
                   ("pos", "<=", ("i", 0), ("j", 0), ("j", 0)), ("pos", "<=", ("x", 0), ("i", 0)),
                   ("val", "<=", ("i", 0), ("x", 0)), ("pos", "<=", ("a", "i", 0, 0), ("i", 0)),
                   ("pos", "<=", ("k", 0), ("i", 0)), ("val", "<", ("a", "k", 0, 0), ("x", 0)),
                   ("pos", "<=", ("i", LONG), ("j", 0)), ("val", "<=", ("a", "i", -LONG, 0), ("x", 0)),
                   ("val", "<=", ("a", "i", 0, LONG), ("x", 0)), ("eq", "==", ("i", 0), ("j", 0)),
                   ("pos", None, ("i", 0), ("j", 0)), ("pos", ["<="], ("i", 0), ("j", 0)))

    def test_joined(self):
        self.right(("and", ()), ("or", ()), ("and", (LESS,)), ("or", (LESS, SMALL, ("not", LESS))), ("not", ("or", ())),
                   ("and", (UPTO, ("not", UPTO))), ("or", tuple([LESS] * 50)))
        self.wrong(("and",), ("and", LESS), ("and", LESS, LESS), ("or", [LESS]), ("or", (LESS, None)), ("not",),
                   ("not", LESS, LESS), ("not", (LESS,)), ("not", None), ("nor", (LESS,)), ("and", ((),)))

    def test_alls(self):
        self.right(UPTO, PAIR, every(LOW, BODY), every(("and", ()), BODY), every(("or", (LOW, LOW)), ("not", BODY)),
                   every(("pos", "==", ("i", 3), ("k", 0)), ("or", (BODY, ("and", ())))),
                   every(("pos", "<=", ("k", 0), ("k", 0)), BODY), every(LOW, ("val", "<", ("x", 0), ("", 3))),
                   every(LOW, ("val", "<", ("a", "i", 5, 0), ("a", "k", 0, 7))),
                   every(("pos", "==", ("p", 0), ("q", 0)), BODY[:2] + (("a", "p", 0, 0), ("a", "q", 0, 0)),
                         ("p", "q")),
                   every(LOW, BODY, ("k", "q")), ("and", (every(LOW, BODY), every(LOW, BODY))))

    def test_own_names(self):
        self.wrong(every(LOW, BODY, ()), every(LOW, BODY, ("k", "k")), every(LOW, BODY, ("k", "p", "q")),
                   every(LOW, BODY, ["k"]), every(LOW, BODY, "k"), every(LOW, BODY, ("k", "i")),
                   every(LOW, BODY, ("k", "a")), every(LOW, BODY, ("k", "n")), every(LOW, BODY, ("k", "x")),
                   every(LOW, BODY, ("k", "K")), every(LOW, BODY, ("k", "")), every(LOW, BODY, ("k", 1)),
                   every(LOW, BODY, ("p",)), every(("and", ()), BODY, ("p",)),
                   every(("and", ()), ("val", "<", ("x", 0), ("", 0)), ()), ("any", *UPTO[1:]), ("every", *UPTO[1:]))

    def test_guards(self):
        self.wrong(every(LESS, BODY), every(("pos", "<=", ("i", 0), ("j", 0)), BODY),
                   every(("and", (LOW, ("pos", "<=", ("i", 0), ("j", 0)))), BODY),
                   every(("pos", "<", ("", 0), ("k", 0)), BODY), every(("pos", "<=", ("", 0), ("k", 1)), BODY),
                   every(("pos", "==", ("k", -1), ("i", 0)), BODY), every(("pos", "<=", ("k", 0), ("k", 1)), BODY),
                   every(("pos", "<=", ("p", 0), ("q", 1)), BODY, ("p", "q", )), every(("not", LOW), BODY),
                   every(("and", (LOW, ("not", LOW))), BODY), every(("or", (("val", "<=", ("x", 0), ("x", 0)),)), BODY),
                   every(UPTO, BODY), every(("and", (UPTO,)), BODY), every(("and", [LOW]), BODY), every(None, BODY),
                   every(("pos", "<=", ("k", 0), ("p", 0)), BODY), every((), BODY), every(("xor", (LOW,)), BODY),
                   every(("and", (LOW,), (LOW,)), BODY), every(("and",), BODY), every(("not", (LOW,)), BODY))

    def test_bodies(self):
        self.wrong(every(LOW, LOW), every(LOW, LESS), every(LOW, UPTO), every(LOW, ("not", UPTO)),
                   every(LOW, ("or", (BODY, UPTO))), every(LOW, ("val", "==", ("a", "k", 1, 0), ("x", 0))),
                   every(LOW, ("not", ("val", "==", ("x", 0), ("a", "k", -1, 0)))), every(LOW, None),
                   every(LOW, ("val", "==", ("k", 0), ("x", 0))), every(LOW, ("and", [BODY])), every(LOW, ()),
                   every(LOW, ("val", "==", ("a", "p", 0, 0), ("x", 0))), every(LOW, ("not", BODY, BODY)),
                   every(LOW, ("not",)), every(LOW, ("xor", (BODY,))), every(LOW, ("or", (BODY,), ())),
                   ("all", ("k",), LOW),
                   ("all", ("k",), LOW, BODY, BODY))

    def test_depth(self):
        self.right(nested(12))
        self.wrong(nested(13), nested(40), deep_junk(), deep_junk(13))
        guard, body = LOW, BODY
        for _ in range(10):
            guard, body = ("and", (guard,)), ("not", body)
        self.right(every(guard, BODY), every(LOW, body), every(guard, body))
        self.wrong(every(("or", (guard,)), BODY), every(LOW, ("not", body)), ("not", every(guard, BODY)))
        guard, body = LOW, BODY
        for _ in range(10):
            guard, body = ("or", (LOW, guard)), ("and", (body, BODY))
        self.right(every(guard, body))
        self.wrong(every(LOW, ("or", (body,))), every(("and", (guard,)), BODY))
        empty = ("and", ())
        for _ in range(11):
            empty = ("not", empty)
        self.right(empty)
        self.wrong(("not", empty))

    def test_true_is_not_one(self):
        for claim in (LESS, SMALL, UPTO, PAIR, ("not", SMALL), ("or", (LESS, SMALL))):
            self.right(claim)
            self.assertNotEqual([], with_trues(claim))
            self.wrong(*with_trues(claim))

    def test_lists_are_no_tuples(self):
        for claim in (LESS, SMALL, UPTO, PAIR, ("not", SMALL), ("or", (LESS, SMALL))):
            self.wrong(*with_lists(claim))

    def test_junk(self):
        self.wrong(*JUNK)

    def test_wrong_frames(self):
        calls = (lambda frame: is_claim(frame, None), lambda frame: names_of(frame, None),
                 lambda frame: replaced(frame, None, None), lambda frame: carried(frame, None, None, None, None),
                 lambda frame: used_at(frame, None, None), lambda frame: inside_claim(frame, None, None),
                 lambda frame: all_between(frame, None, None, None, None, None),
                 lambda frame: renamed_claim(frame, None, None))
        for frame in (None, "a:n | i j | x", FRAME.arrays, UPTO, {}):
            for call in calls:
                with self.assertRaises(InvalidFrame):
                    call(frame)

    def test_wrong_claims(self):
        for claim in (None, nested(13), ["not", LESS], ("not", ("pos", "<=", ("i", True), ("j", 0)))):
            for call in (lambda: names_of(FRAME, claim), lambda: replaced(FRAME, claim, None),
                         lambda: carried(FRAME, claim, None, None, None), lambda: used_at(FRAME, claim, None),
                         lambda: renamed_claim(FRAME, claim, None)):
                with self.assertRaises(InvalidClaim):
                    call()


class NamesTest(unittest.TestCase):
    """names_of."""

    def test_names(self):
        self.assertEqual(("a", "i", "x"), names_of(FRAME, UPTO))
        self.assertEqual(("i", "n"), names_of(FRAME, LESS))
        self.assertEqual(("a", "n"), names_of(FRAME, ("not", ("val", "<", ("a", "n", -1, 0), ("", 0)))))
        self.assertEqual((), names_of(FRAME, ("and", ())))
        self.assertEqual(("a",), names_of(FRAME, every(("and", ()), ("val", "<", ("a", "k", 0, 0), ("", 0)))))
        self.assertEqual(("a", "b", "i", "m", "y"), names_of(WIDE, ("or", (
            ("val", "<=", ("b", "m", 0, 0), ("y", 0)), ("val", "==", ("a", "i", 0, 0), ("a", "", 0, 0))))))


class ReplacedTest(unittest.TestCase):
    """replaced."""

    def test_numbers_are_added_up(self):
        self.assertEqual(("pos", "<", ("j", 4), ("n", 0)), replaced(FRAME, LESS, {"i": ("j", 3)}))
        self.assertEqual(("val", "<=", ("a", "j", 4, 0), ("x", 1)), replaced(FRAME, SMALL, {"i": ("j", 3)}))
        self.assertEqual(("val", "<=", ("a", "", 6, 0), ("a", "n", -1, 3)),
                         replaced(FRAME, SMALL, {"i": ("", 5), "x": ("a", "n", -1, 2)}))
        self.assertEqual(("val", "<=", ("a", "i", 1, 0), ("", 8)), replaced(FRAME, SMALL, {"x": ("", 7)}))

    def test_all_at_once(self):
        claim = ("and", (("pos", "<=", ("i", 1), ("j", 2)), ("val", "==", ("a", "j", 0, 0), ("a", "i", 0, 0))))
        self.assertEqual(("and", (("pos", "<=", ("j", 1), ("i", 2)), ("val", "==", ("a", "i", 0, 0),
                                                                      ("a", "j", 0, 0)))),
                         replaced(FRAME, claim, {"i": ("j", 0), "j": ("i", 0)}))
        self.assertEqual(("val", "<=", ("a", "j", 1, 0), ("a", "i", 0, 1)),
                         replaced(FRAME, SMALL, {"i": ("j", 0), "x": ("a", "i", 0, 0)}))
        self.assertEqual(("val", "<", ("y", 0), ("x", 0)),
                         replaced(WIDE, ("val", "<", ("x", 0), ("y", 0)), {"x": ("y", 0), "y": ("x", 0)}))

    def test_own_names_stay(self):
        made = replaced(FRAME, UPTO, {"i": ("i", 1), "x": ("a", "j", 0, -1)})
        self.assertEqual(every(("and", (LOW, ("pos", "<=", ("k", 0), ("i", 1)))),
                               ("val", "<=", ("a", "k", 0, 0), ("a", "j", 0, -1))), made)
        self.assertEqual(UPTO, replaced(FRAME, UPTO, {}))

    def test_wrong_terms(self):
        for terms in ({"k": ("", 0)}, {"n": ("", 0)}, {"a": ("", 0)}, {"k": ("i", 0)}, {"n": ("i", 0)}, {"a": ("i", 0)},
                      {"i": ("x", 0)}, {"i": ("a", "i", 0, 0)},
                      {"x": ("i", 0)}, {"x": ("a", "x", 0, 0)}, {"i": ("k", 0)}, {"i": ("j", True)}, {"i": ["j", 0]},
                      {"i": ("j", LONG)}, {"x": ("a", "i", LONG, 0)}, {"": ("i", 0)}, {1: ("i", 0)}, {"i": None},
                      {("i",): ("i", 0)}, [("i", ("j", 0))], None, (), "i", FRAME):
            with self.assertRaises(InvalidOperation, msg=repr(terms)):
                replaced(FRAME, UPTO, terms)

    def test_results_that_are_none(self):
        self.assertEqual(("pos", "<", ("j", SIXTY), ("n", 0)), replaced(FRAME, LESS, {"i": ("j", SIXTY - 1)}))
        for claim, terms in ((LESS, {"i": ("j", SIXTY)}), (SMALL, {"i": ("j", SIXTY)}), (SMALL, {"x": ("", SIXTY)}),
                             (("not", SMALL), {"x": ("a", "i", 0, SIXTY)})):
            with self.assertRaises(InvalidOperation):
                replaced(FRAME, claim, terms)
        self.assertEqual(UPTO, replaced(FRAME, UPTO, {"j": ("j", SIXTY)}))

    def test_truth(self):
        maker = Maker(WIDE, random.Random(1))
        for _ in range(200):
            claim, situation = maker.claim(), maker.situation()
            terms = {"i": maker.term(), "y": maker.value()}
            moved = situation.with_number("i", situation.position_at(terms["i"]))
            moved = moved.with_number("y", situation.value_at(terms["y"]))
            self.assertEqual(moved.holds(claim), situation.holds(replaced(WIDE, claim, terms)), (claim, terms))


class CarriedTest(unittest.TestCase):
    """carried and renamed_claim."""

    def test_arrays_and_lengths(self):
        target = Frame((("d", "l"), ("e", "o")), ("p",), ("v",))
        claim = ("and", (("val", "<", ("a", "n", -1, 1), ("b", "i", 2, 0)), ("pos", "<", ("m", 1), ("j", 0)),
                         ("val", "==", ("c", "m", 0, 0), ("y", 3))))
        terms = {"i": ("p", 4), "j": ("o", -2), "x": ("", 0), "y": ("d", "p", 1, 1)}
        self.assertEqual(("and", (("val", "<", ("e", "o", -1, 1), ("e", "p", 6, 0)), ("pos", "<", ("l", 1), ("o", -2)),
                                  ("val", "==", ("d", "l", 0, 0), ("d", "p", 1, 4)))),
                         carried(WIDE, claim, target, {"a": "e", "b": "e", "c": "d"}, terms))

    def test_lengths_can_become_one(self):
        target = Frame((("d", "l"),), (), ())
        terms = {"i": ("", 0), "j": ("l", 0), "x": ("", 0), "y": ("", 0)}
        self.assertEqual(("pos", "<", ("l", 0), ("l", 0)), carried(
            WIDE, ("pos", "<", ("n", 0), ("m", 0)), target, {"a": "d", "b": "d", "c": "d"}, terms))

    def own_names(self, own, words):
        target = Frame((("a", "n"),), words, ())
        guard = ("and", tuple(("pos", "<=", ("", 0), (word, 0)) for word in own))
        made = carried(FRAME, every(guard, ("val", "<", ("a", own[0], 0, 0), ("a", own[-1], 0, 1)), own), target,
                       {"a": "a"}, {"i": ("", 0), "j": ("", 0), "x": ("", 0)})
        self.assertEqual(("and", tuple(("pos", "<=", ("", 0), (word, 0)) for word in made[1])), made[2])
        self.assertEqual(("val", "<", ("a", made[1][0], 0, 0), ("a", made[1][-1], 0, 1)), made[3])
        return made[1]

    def test_own_names(self):
        self.assertEqual(("k",), self.own_names(("k",), ()))
        self.assertEqual(("kk",), self.own_names(("k",), ("k",)))
        self.assertEqual(("k",), self.own_names(("p",), ("p",)))
        self.assertEqual(("kkk",), self.own_names(("k",), ("k", "kk")))
        self.assertEqual(("kkk",), self.own_names(("kk",), ("k", "kk")))
        self.assertEqual(("k", "kk"), self.own_names(("p", "q"), ("p", "q")))
        self.assertEqual(("kk", "k"), self.own_names(("p", "k"), ("p",)))
        self.assertEqual(("k", "kk"), self.own_names(("k", "p"), ("p",)))
        self.assertEqual(("kk", "q"), self.own_names(("k", "q"), ("k",)))
        # An old own name stays barred for the new ones, also where it is replaced itself.
        self.assertEqual(("kkk", "k"), self.own_names(("kk", "k"), ("kk",)))
        self.assertEqual(("kkk", "kkkk"), self.own_names(("k", "kk"), ("k", "kk")))
        self.assertEqual(("kkk", "kkkk"), self.own_names(("kk", "k"), ("k", "kk")))
        self.assertEqual(("kk", "kkk"), self.own_names(("p", "q"), ("p", "q", "k")))

    def test_own_names_can_be_names_that_are_gone(self):
        target = Frame((("k", "kk"),), (), ("kkk",))
        made = carried(FRAME, UPTO, target, {"a": "k"}, {"i": ("kk", -1), "j": ("", 0), "x": ("kkk", 0)})
        self.assertEqual(("kkkk",), made[1])
        self.assertEqual(("val", "<=", ("k", "kkkk", 0, 0), ("kkk", 0)), made[3])

    def test_wrong_targets_come_first(self):
        with self.assertRaises(InvalidFrame):
            carried(FRAME, UPTO, None, None, None)
        with self.assertRaises(InvalidClaim):
            carried(FRAME, None, None, None, None)

    def test_wrong_dicts(self):
        arrays, terms = {"a": "a", "b": "b", "c": "c"}, {word: ("", 0) for word in ("i", "j", "x", "y")}
        self.assertEqual(("or", ()), carried(WIDE, ("or", ()), WIDE, arrays, terms))
        for wrong in ({"a": "a", "b": "b"}, {**arrays, "d": "a"}, {**arrays, "c": "d"}, {**arrays, "c": "n"},
                      {**arrays, "b": "c"}, {**arrays, "c": None}, {**arrays, "c": ["c"]}, {**arrays, 1: "a"},
                      {"a": "a", "b": "b", "n": "c"}, list(arrays.items()), None, "abc"):
            with self.assertRaises(InvalidOperation, msg=repr(wrong)):
                carried(WIDE, ("or", ()), WIDE, wrong, terms)
        for wrong in ({"i": ("", 0)}, {**terms, "a": ("", 0)}, {**terms, "n": ("", 0)}, {**terms, "k": ("", 0)},
                      {**terms, "i": ("x", 0)}, {**terms, "x": ("i", 0)}, {**terms, "x": ("", True)},
                      {**terms, "i": ("", LONG)}, {**terms, "j": ["", 0]}, list(terms.items()), None):
            with self.assertRaises(InvalidOperation, msg=repr(wrong)):
                carried(WIDE, ("or", ()), WIDE, arrays, wrong)

    def test_results_that_are_none(self):
        terms = {"i": ("", SIXTY), "j": ("", 0), "x": ("", 0)}
        self.assertEqual(("pos", "<=", ("", SIXTY), ("", 0)),
                         carried(FRAME, ("pos", "<=", ("i", 0), ("j", 0)), FRAME, {"a": "a"}, terms))
        with self.assertRaises(InvalidOperation):
            carried(FRAME, LESS, FRAME, {"a": "a"}, terms)

    def test_truth(self):
        target = Frame((("k", "l"), ("e", "o")), ("p",), ("v",))
        maker, other = Maker(WIDE, random.Random(2)), Maker(target, random.Random(3))
        for _ in range(200):
            claim, there = maker.claim(), other.situation()
            arrays = {"a": "k", "b": "k", "c": "e"}
            terms = {"i": other.term(), "j": other.term(), "x": other.value(), "y": other.value()}
            here = Situation(WIDE, {old: there.rows[new] for old, new in arrays.items()},
                             {word: there.position_at(terms[word]) for word in ("i", "j")},
                             {word: there.value_at(terms[word]) for word in ("x", "y")})
            self.assertEqual(plain_truth(here, claim), there.holds(carried(WIDE, claim, target, arrays, terms)))

    def test_renamed_claim(self):
        self.assertEqual(every(("and", (LOW, ("pos", "<=", ("k", 0), ("j", 0)))), ("val", "<=", ("b", "k", 0, 0),
                                                                                ("x", 0))),
                         renamed_claim(FRAME, UPTO, {"i": "j", "j": "i", "a": "b"}))
        self.assertEqual(("kk",), renamed_claim(FRAME, UPTO, {"x": "k"})[1])
        self.assertEqual(("pos", "<", ("i", 1), ("k", 0)), renamed_claim(FRAME, LESS, {"n": "k"}))
        self.assertEqual(UPTO, renamed_claim(FRAME, UPTO, {}))
        for names in ({"i": "x"}, {"k": "l"}, {"i": "I"}, None, [], {"i": ["k"]}):
            with self.assertRaises(InvalidOperation):
                renamed_claim(FRAME, UPTO, names)


class UsedTest(unittest.TestCase):
    """used_at, inside_claim and all_between."""

    def test_used_at(self):
        self.assertEqual(("or", (("not", ("and", (("pos", "<=", ("", 0), ("j", -1)),
                                                  ("pos", "<=", ("j", -1), ("i", 0))))),
                                 ("val", "<=", ("a", "j", -1, 0), ("x", 0)))), used_at(FRAME, UPTO, (("j", -1),)))
        made = used_at(FRAME, PAIR, (("", 3), ("n", -1)))
        self.assertEqual(("pos", "<=", ("", 3), ("n", -1)), made[1][0][1][1][1])
        self.assertEqual(("val", "<=", ("a", "", 3, 0), ("a", "n", -1, 1)), made[1][1])

    def test_used_at_wrong(self):
        for claim, terms in ((LESS, (("i", 0),)), (("not", UPTO), (("i", 0),)), (UPTO, ()),
                             (UPTO, (("i", 0), ("j", 0))),
                             (PAIR, (("i", 0),)), (UPTO, [("i", 0)]), (UPTO, (["i", 0],)), (UPTO, (("k", 0),)),
                             (UPTO, (("x", 0),)), (UPTO, (("i", True),)), (UPTO, (("i", LONG),)), (UPTO, None),
                             (UPTO, ("i", 0)), (UPTO, (None,)), (UPTO, (("a", "i", 0, 0),))):
            with self.assertRaises(InvalidOperation, msg=repr(terms)):
                used_at(FRAME, claim, terms)

    def test_used_at_too_deep(self):
        guard = LOW
        for _ in range(9):
            guard = ("and", (guard,))
        self.assertTrue(is_claim(FRAME, used_at(FRAME, every(guard, BODY), (("i", 0),))))
        guard = ("and", (guard,))
        self.assertTrue(is_claim(FRAME, every(guard, BODY)))
        with self.assertRaises(InvalidOperation):
            used_at(FRAME, every(guard, BODY), (("i", 0),))

    def test_inside_claim(self):
        self.assertEqual(("and", (("pos", "<=", ("", 0), ("i", 2)), ("pos", "<", ("i", 2), ("m", 0)))),
                         inside_claim(WIDE, "c", ("i", 2)))
        for array in ("n", "i", "d", "", None, ["a"], 1):
            with self.assertRaises(UnknownName) as caught:
                inside_claim(WIDE, array, None)
            self.assertEqual(array, caught.exception.name)
        for term in (("x", 0), ("k", 0), ("i", True), ("i", LONG), ["i", 0], None, ("a", "i", 0, 0)):
            with self.assertRaises(InvalidTerm):
                inside_claim(WIDE, "c", term)

    def test_all_between(self):
        self.assertEqual(every(("and", (("pos", "<=", ("i", 1), ("k", 0)), ("pos", "<=", ("k", 0), ("n", -1)))),
                               ("val", "<", ("a", "k", 0, 2), ("a", "i", 3, 0))),
                         all_between(FRAME, ("i", 1), ("n", -1), "<", ("a", "k", 0, 2), ("a", "i", 3, 0)))
        seven = Frame((("a", "n"),), tuple("k" * many for many in range(1, 5)),
                      tuple("k" * many for many in range(5, 8)))
        self.assertEqual(("kkkkkkkk",), all_between(seven, ("", 0), ("", 0), "<", ("", 0), ("", 0))[1])
        taken = FRAME.with_names(positions=("k",), values=("kk",))
        made = all_between(taken, ("k", 0), ("k", 1), "==", ("a", "k", 5, 0), ("a", "kkk", 0, 0))
        self.assertEqual(("kkk",), made[1])
        self.assertTrue(is_claim(taken, made))

    def test_all_between_wrong(self):
        right = (("", 0), ("i", 0), "<=", ("a", "k", 0, 0), ("x", 0))
        for at, wrong in ((0, ("k", 0)), (0, ("x", 0)), (0, None), (1, ("k", 0)), (1, ("i", True)), (1, ["i", 0]),
                          (3, ("a", "k", 1, 0)), (3, ("k", 0)), (3, ("a", "k", 0, True)), (3, None),
                          (4, ("a", "k", -1, 0)), (4, ("i", 0)), (4, ("a", "kk", 0, 0)), (4, ["x", 0])):
            with self.assertRaises(InvalidTerm, msg=repr((at, wrong))):
                all_between(FRAME, *right[:at], wrong, *right[at + 1:])
        for op in (">", "", None, 1, ["<="], ("<=",)):
            with self.assertRaises(InvalidOperation):
                all_between(FRAME, ("", 0), ("i", 0), op, None, None)
        with self.assertRaises(InvalidTerm):
            all_between(FRAME, ("", 0), None, None, None, None)


class UnchangedTest(unittest.TestCase):
    """What is passed is as it was."""

    def test_dicts(self):
        terms, arrays = {"j": ("", 0), "x": ("x", 0), "i": ("j", 1)}, {"a": "a"}
        before = (list(terms.items()), list(arrays.items()))
        replaced(FRAME, UPTO, terms)
        carried(FRAME, UPTO, FRAME, arrays, terms)
        renamed_claim(FRAME, UPTO, {"i": "k"})
        self.assertEqual(before, (list(terms.items()), list(arrays.items())))


if __name__ == "__main__":
    unittest.main()
