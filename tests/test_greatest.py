"""Greatest choices of candidates for claims."""

import itertools
import unittest

import samples
from lentcells.code.functions import Function
from lentcells.code.programs import Program
from lentcells.decide.follows import breaking, follows
from lentcells.errors import InvalidClaim, InvalidOperation, InvalidProgram, TooMany
from lentcells.pieces.kept import is_program_kept
from lentcells.pieces.pieces import pieces
from lentcells.loans.tables import unsound
from lentcells.use.greatest import (
    best_program, choice_paper, greatest_choice, is_carried, is_choice, is_choice_paper, ranks)
from making import ALL, BOTH, DONE, FALSE, FILL, SHARED, SPAN, TRUE, TWICE, Maker, one_function
from samples import JUNK, deep_junk, with_lists, with_trues

ZERO = ("", 0)
NONE = ((), (), ())


def at_least(word, number):
    return ("pos", "<=", ("", number), (word, 0))


def plain(called="f", **passed):
    """A function with an array a and a position i, and a local position j."""
    return Function(called, arrays=(("full", "a", "n", "w"),), positions=("i",), places=("j",), **passed)


# The notes and the contract of fill, with some that are wrong.
FOR_BOTH = {"fill": ((), ((DONE, FALSE, *SPAN),), (ALL, FALSE)), "twice": NONE}
# f counts j up from i; g calls f.
COUNT = plain("f", rows=(("move", "j", ("i", 0)), ("while", ("pos", "<", ("j", 0), ("n", 0)), (("move", "j", ("j", 1)),))), notes=((),))
CALLER = plain("g", rows=(("call", "f", ("a",), (("i", -1),), ()),))
COUNTED = Program((COUNT, CALLER))


def for_counted(f=NONE, g=NONE):
    return {"f": f, "g": g}


class ChoiceTest(unittest.TestCase):
    """Candidates, roots and choices, and their errors."""

    CALLS = (
        lambda made, candidates, roots=(): is_choice(made, candidates, None, roots), greatest_choice, ranks,
        lambda made, candidates, roots=(): is_carried(made, candidates, None, roots), choice_paper,
        lambda made, candidates, roots=(): is_choice_paper(made, candidates, None, roots), best_program)

    def every(self, error, *passed, **named):
        """All functions raise this error."""
        for call in self.CALLS:
            with self.assertRaises(error):
                call(*passed, **named)

    def test_no_programs(self):
        for value in JUNK + (deep_junk(), FILL):
            self.every(InvalidProgram, value, None, None)

    def test_no_candidates(self):
        fill, twice = FOR_BOTH["fill"], FOR_BOTH["twice"]
        wrong = [value for value in JUNK] + [deep_junk(), BOTH, {}, {"fill": fill}, {**FOR_BOTH, "more": NONE}, {"fill": fill, "twic": twice},
                 tuple(FOR_BOTH.items()), {**FOR_BOTH, 1: NONE}]
        local = at_least("i", 0)
        wrong += [{**FOR_BOTH, "fill": part} for part in (
            NONE, ((), ((), ()), ()), ((TRUE,) * 5, ((),), ()), ((), ((TRUE,) * 5,), ()), ((), ((),), (TRUE,) * 5), [(), ((),), ()], ((), [()], ()), ([], ((),), ()),
            ((), ([],), ()), ((), ((),), []), ((), ((),)), ((), ((),), (), ()), ((local,), ((),), ()), ((), ((),), (local,)), ((), (local,), ()),
            ((("val", "==", ("old", "", 0, 0), ZERO),), ((),), ()), ((None,), ((),), ()), ((), ((at_least("p", 0),),), ()),
            ((("pos", "<=", ZERO, ("", 10 ** 40)),), ((),), ()), ((samples.nested(13),), ((),), ()), None, (), TRUE)]
        for value in wrong:
            self.every(InvalidClaim, BOTH, value, None)
        for part in (((("pos", "<=", ZERO, ("", 10 ** 40 - 1)),), ((local,),), (("val", "==", ("old", "", 0, 0), ZERO),)), ((), ((TRUE,) * 4,), (TRUE,) * 4)):
            self.assertFalse(is_choice(BOTH, {**FOR_BOTH, "fill": part}, None))

    def test_no_roots(self):
        for value in JUNK + (deep_junk(), ("twice", "fill"), ("fill", "fill"), ["fill"], ("none",), ("fill", "none"), "fill", {"fill": 1}, ("fill", 1), (("fill",),)):
            if value != ():
                self.every(InvalidOperation, BOTH, FOR_BOTH, value)
        for value in ((), ("fill",), ("twice",), ("fill", "twice")):
            self.assertFalse(is_choice(BOTH, FOR_BOTH, None, value))

    def test_roots_with_candidates_for_before(self):
        candidates = for_counted(f=((TRUE,), ((),), ()))
        self.every(InvalidOperation, COUNTED, candidates, ("f",))
        self.every(InvalidOperation, COUNTED, candidates, roots=("f", "g"))
        self.assertFalse(is_choice(COUNTED, candidates, None, ("g",)))

    def test_programs_that_are_not_sound(self):
        self.every(InvalidOperation, SHARED, {"two": NONE, "twice": NONE})
        # A candidate for a note names a loan that is empty.
        made = one_function(arrays=(("full", "a", "n", "w"),), loans=(("look", "r", "n"),), rows=(("while", TRUE, (("lend", "r", "a"),)),), notes=((),))
        note = ("val", "==", ("r", "", 0, 0), ("r", "", 0, 0))
        self.assertEqual((), unsound(made))
        self.every(InvalidOperation, made, {"f": ((), ((TRUE, note),), ())})
        self.assertEqual({"f": ((), ((0,),), ())}, greatest_choice(made, {"f": ((), ((TRUE,),), ())}))
        # The notes of the program itself play no part.
        self.assertEqual({"f": ((), ((),), ())}, greatest_choice(Program((made["f"].with_notes(0, (note,)),)), {"f": ((), ((),), ())}))

    def bounds(self, bound, *passed):
        for call in self.CALLS:
            with self.assertRaises(TooMany) as caught:
                call(*passed)
            self.assertEqual(bound, caught.exception.bound)

    def test_errors_of_pieces(self):
        many = plain("h", rows=(("if", TRUE, (), ()),) * 7)
        writes = plain("g", rows=(("write", "a", "", 0, ZERO),) * 5)
        candidates = {"g": NONE, "h": NONE}
        self.bounds(4, Program((many, writes)), candidates)
        self.bounds(64, Program((many, plain("g"))), candidates)
        # Shapes by all candidates: without the notes there are fewer pieces.
        arrays = tuple(("full", array, "n", f"w{array}") for array in "abcd")
        lends = tuple(("if", TRUE, (("lend", loan, "a"),), (("if", TRUE, (("lend", loan, "b"),), (("lend", loan, "c"),)),)) for loan in "rst")
        loop = ("while", TRUE, (("if", TRUE, (), ()),))
        made = one_function(arrays=arrays, loans=tuple(("look", loan, "n") for loan in "rst"), rows=(("while", TRUE, ()), *lends, loop), notes=((), ()))
        notes = tuple(("val", "==", (loan, "", 0, 0), (loan, "", 0, 0)) for loan in "rst")
        self.bounds(64, made, {"f": ((), ((), notes), ())})
        self.assertEqual({"f": ((), ((), ()), ())}, greatest_choice(made, {"f": ((), ((), ()), ())}))

    def test_great_questions(self):
        candidates = for_counted(f=((), ((("pos", "<=", ("i", 5000), ("j", 0)),),), ()))
        self.assertTrue(is_choice(COUNTED, candidates, for_counted(f=((), ((0,),), ()))))
        for call in (greatest_choice, ranks, choice_paper, best_program):
            with self.assertRaises(TooMany) as caught:
                call(COUNTED, candidates)
            self.assertEqual(1000, caught.exception.bound)
        whole = for_counted(f=((), ((0,),), ()))
        with self.assertRaises(TooMany):
            is_carried(COUNTED, candidates, whole)
        with self.assertRaises(TooMany):
            is_choice_paper(COUNTED, candidates, (whole, ()))
        # Nothing has to be decided for these.
        self.assertFalse(is_carried(COUNTED, candidates, None))
        self.assertFalse(is_choice_paper(COUNTED, candidates, (whole, None)))
        self.assertTrue(is_carried(COUNTED, candidates, for_counted(f=((), ((),), ()))))

    def test_choices(self):
        whole = {"fill": ((), ((0, 1, 2, 3),), (0, 1)), "twice": NONE}
        fill = whole["fill"]
        for part in (fill, ((), ((),), ()), ((), ((3,),), (1,)), ((), ((0, 2),), (0,))):
            self.assertIs(True, is_choice(BOTH, FOR_BOTH, {**whole, "fill": part}))
            self.assertIs(True, is_choice(BOTH, FOR_BOTH, {"twice": NONE, "fill": part}, roots=("twice",)))
        parts = [((), ((0, 0),), ()), ((), ((1, 0),), ()), ((), ((4,),), ()), ((), ((-1,),), ()), ((), ((0, None),), ()), ((), ((True,),), ()), ((), ((),), (2,)),
                 ((0,), ((),), ()), ((), ([0],), ()), ((), (), ()), ((), ((), ()), ()), ((), ((),)), [(), ((),), ()], ((), [()], ()), ((), ((),), [0]), ((), 0, ()),
                 (None, ((),), ()), ((), ((0.5,),), ()), ((), ((),), 0), ((), ("0",), ()), ((), ((0, 1, 2, 3, 4),), ())]
        for value in [{**whole, "fill": part} for part in (*parts, *with_trues(fill), *with_lists(fill))] + [
                {"fill": fill}, {**whole, "more": NONE}, {"fill": fill, "twic": NONE}, tuple(whole.items()), [whole], *JUNK, deep_junk()]:
            self.assertIs(False, is_choice(BOTH, FOR_BOTH, value), value)
            self.assertIs(False, is_carried(BOTH, FOR_BOTH, value), value)


class GreatestTest(unittest.TestCase):
    """Greatest choices, rounds and ranks."""

    def check(self, made, candidates, roots=()):
        """The greatest choice, with all that is told of it."""
        found = greatest_choice(made, candidates, roots)
        self.assertEqual(list(made.names), list(found))
        self.assertTrue(is_choice(made, candidates, found, roots))
        self.assertTrue(is_carried(made, candidates, found, roots))
        told = ranks(made, candidates, roots)
        self.assertEqual(found, kept_of(told))
        self.assertEqual(list(made.names), list(told))
        paper = choice_paper(made, candidates, roots)
        self.assertEqual(found, paper[0])
        self.assertTrue(is_choice_paper(made, candidates, paper, roots))
        best = best_program(made, candidates, roots)
        for function in made.functions:
            called = function.called
            before, notes, after = candidates[called]
            other = best[called]
            self.assertEqual(function.before if called in roots else tuple(before[at] for at in found[called][0]), other.before)
            self.assertEqual(tuple(tuple(claims[at] for at in indices) for claims, indices in zip(notes, found[called][1])), other.notes)
            self.assertEqual(tuple(after[at] for at in found[called][2]), other.after)
            self.assertEqual((function.rows, function.arrays), (other.rows, other.arrays))
        return found, told

    def test_of_fill(self):
        found, told = self.check(BOTH, FOR_BOTH, ("twice",))
        self.assertEqual({"fill": ((), ((0, 2, 3),), (0,)), "twice": NONE}, found)
        # The false claim behind the function is carried by the false note as long as this is there.
        self.assertEqual({"fill": ((), ((None, 0, None, None),), (None, 1)), "twice": NONE}, told)
        self.assertTrue(is_program_kept(best_program(BOTH, FOR_BOTH)))

    def test_nothing_is_dropped(self):
        found, told = self.check(BOTH, {"fill": ((), ((*SPAN, TRUE),), (TRUE, TRUE)), "twice": ((), (), (TRUE,))})
        self.assertEqual({"fill": ((), ((0, 1, 2),), (0, 1)), "twice": ((), (), (0,))}, found)
        self.assertEqual({"fill": ((), ((None, None, None),), (None, None)), "twice": ((), (), (None,))}, told)
        found, told = self.check(BOTH, {"fill": ((), ((),), ()), "twice": NONE})
        self.assertEqual({"fill": ((), ((),), ()), "twice": NONE}, found)
        self.assertEqual(((), ()), (choice_paper(BOTH, {"fill": ((), ((),), ()), "twice": NONE})[1], told["twice"][0]))

    def test_all_are_dropped(self):
        found, told = self.check(BOTH, {"fill": ((FALSE,), ((FALSE, FALSE),), (FALSE,)), "twice": ((), (), (FALSE,))})
        # The claim before fill is asked by twice, which has nothing to show it.
        self.assertEqual({"fill": ((), ((),), ()), "twice": ((), (), ())}, found)
        self.assertEqual({"fill": ((0,), ((1, 1),), (2,)), "twice": ((), (), (3,))}, told)

    def test_what_is_false_before_carries_all(self):
        # [7.8]: no situation has it.
        candidates = for_counted(f=((FALSE,), ((FALSE,),), (FALSE,)), g=((FALSE,), (), (FALSE,)))
        self.assertEqual({"f": ((0,), ((0,),), (0,)), "g": ((0,), (), (0,))}, self.check(COUNTED, candidates)[0])
        self.assertTrue(is_program_kept(best_program(COUNTED, candidates)))

    def test_later_rounds(self):
        # i >= 2 for g gives i >= 1 for f; that of g is fixed.
        below, note = at_least("i", 1), at_least("j", 1)
        candidates = for_counted(f=((below,), ((note, at_least("j", 2), below),), (below,)), g=((at_least("i", 2),), (), (at_least("i", 2),)))
        found, told = self.check(COUNTED, candidates)
        self.assertEqual(for_counted(f=((0,), ((0, 2),), (0,)), g=((0,), (), (0,))), found)
        self.assertEqual(for_counted(f=((None,), ((None, 0, None),), (None,)), g=((None,), (), (None,))), told)
        # Without it all fall, one behind the other.
        found, told = self.check(COUNTED, for_counted(f=((below,), ((note, at_least("i", 1)),), (below,)), g=((), (), (below,))))
        self.assertEqual(for_counted(f=((0,), ((1, 1),), (2,)), g=((), (), (3,))), told)
        self.assertEqual(for_counted(f=((), ((),), ()), g=NONE), found)

    def test_a_chain_of_notes(self):
        # Each note is carried by the one ahead of it until this falls.
        made = one_function(positions=("i",), places=("j",), values=("x",), numbers=("y", "z", "v"), notes=((),), rows=(
            ("while", TRUE, (("keep", "v", ("z", 0)), ("keep", "z", ("y", 0)), ("keep", "y", ("x", 0)))),))
        notes = tuple(("val", "<=", (word, 0), ZERO) for word in ("y", "z", "v"))
        found, told = self.check(made, {"f": ((), (notes,), ())})
        self.assertEqual({"f": ((), ((0, 1, 2),), ())}, told)
        found, told = self.check(made, {"f": ((("val", "<=", ("x", 0), ZERO),), (notes[::-1],), ())})
        # The claim before is no fact in the loop, where it is no note.
        self.assertEqual({"f": ((None,), ((2, 1, 0),), ())}, told)
        found, told = self.check(made, {"f": ((("val", "<=", ("x", 0), ZERO),), ((*notes, ("val", "<=", ("x", 0), ZERO)),), ())})
        self.assertEqual({"f": ((0,), ((0, 1, 2, 3),), ())}, found)

    def test_a_caller_and_its_function_drop_together(self):
        # Both ask it of one another: f calls itself through g.
        low = at_least("i", 0)
        f, g = plain("f", rows=(("call", "g", ("a",), (("i", 0),), ()),)), plain("g", rows=(("call", "f", ("a",), (("i", 0),), ()),))
        made = Program((f, g))
        self.assertEqual(for_counted(f=((0,), (), ()), g=((0,), (), ())), self.check(made, for_counted(f=((low,), (), ()), g=((low,), (), ())))[0])
        other = Program((f, g, plain("h", rows=(("call", "g", ("a",), (("i", -1),), ()),))))
        found, told = self.check(other, {"f": ((low,), (), ()), "g": ((low,), (), ()), "h": NONE})
        self.assertEqual({"f": ((1,), (), ()), "g": ((0,), (), ()), "h": NONE}, told)
        # What a function gives and what it is asked hang on one another, too: none of both can be found by itself.
        after = ("val", "==", ("a", "", 0, 0), ZERO)
        self.assertEqual(for_counted(f=((), (), (0,)), g=((), (), (0,))), self.check(made, for_counted(f=((), (), (after,)), g=((), (), (after,))))[0])

    def test_roots(self):
        f = COUNT.with_contract((at_least("i", 1),), ())
        made = Program((f, CALLER))
        candidates = for_counted(f=((), ((at_least("j", 1),),), ()))
        # The fixed claim before is given, and that the caller does not show it plays no part.
        self.assertEqual(for_counted(f=((), ((0,),), ())), self.check(made, candidates, ("f",))[0])
        self.assertEqual(for_counted(f=((), ((0,),), ())), self.check(made, candidates, ("f", "g"))[0])
        self.assertFalse(is_program_kept(best_program(made, candidates, ("f",))))
        self.assertEqual((at_least("i", 1),), best_program(made, candidates, ("f",))["f"].before)
        # Where it is no root, its claim plays no part at all.
        self.assertEqual(for_counted(f=((), ((),), ())), self.check(made, candidates)[0])
        self.assertEqual((), best_program(made, candidates)["f"].before)

    def test_cells_play_no_part(self):
        made = Program((plain("f", rows=(("write", "a", "i", 0, ZERO),)),))
        candidates = {"f": ((), (), (("val", "==", ("a", "i", 0, 0), ZERO),))}
        self.assertEqual({"f": ((), (), (0,))}, self.check(made, candidates)[0])
        self.assertFalse(is_program_kept(best_program(made, candidates)))
        self.assertTrue(is_program_kept(best_program(made, {"f": ((at_least("i", 0), ("pos", "<", ("i", 0), ("n", 0))), (), candidates["f"][2])})))

    def test_the_order_of_candidates_plays_no_part(self):
        fill = FOR_BOTH["fill"]
        found, told = self.check(BOTH, FOR_BOTH)
        for order in itertools.permutations(range(4)):
            notes = tuple(fill[1][0][at] for at in order)
            other = {"twice": NONE, "fill": ((), (notes,), fill[2][::-1])}
            self.assertEqual(tuple(told["fill"][1][0][at] for at in order), ranks(BOTH, other)["fill"][1][0])
            self.assertEqual(tuple(sorted(order.index(at) for at in (0, 2, 3))), greatest_choice(BOTH, other)["fill"][1][0])

    def test_a_claim_that_stands_twice(self):
        found, told = self.check(BOTH, {"fill": ((), ((*SPAN, FALSE, FALSE),), (TRUE, TRUE)), "twice": NONE})
        self.assertEqual({"fill": ((), ((None, None, 0, 0),), (None, None)), "twice": NONE}, told)

    def test_best_programs(self):
        # [7.8]: a program with a choice that is kept has its claims among those of the best one, which is kept, too.
        for size in range(5):
            for indices in itertools.combinations(range(4), size):
                choice = {"fill": ((), (indices,), (0,)), "twice": NONE}
                notes = tuple(FOR_BOTH["fill"][1][0][at] for at in indices)
                made = BOTH.with_function(FILL.with_notes(0, notes))
                if is_program_kept(made):
                    self.assertTrue(is_carried(BOTH, FOR_BOTH, choice))
                    self.assertTrue(set(notes) <= set(best_program(BOTH, FOR_BOTH)["fill"].notes[0]))
        self.assertTrue(is_program_kept(best_program(BOTH, FOR_BOTH)))

    def test_all_carried_choices(self):
        # [7.6], beside all choices of some random candidates.
        kinds = {}
        for seed in range(60):
            maker = Maker(seed)
            made = maker.program(maker.random.choice((1, 2)), maker.random.choice((3, 6)))
            candidates, roots = random_candidates(maker, made)
            try:
                found = greatest_choice(made, candidates, roots)
            except (TooMany, InvalidOperation):
                continue
            choices = [choice for choice in all_choices(candidates)]
            if len(choices) > 300:
                continue
            self.check(made, candidates, roots)
            carried = [choice for choice in choices if plain_carried(made, candidates, roots, choice)]
            for choice in choices:
                self.assertIs(choice in carried, is_carried(made, candidates, choice, roots))
            self.assertIn(found, carried)
            for choice in carried:
                self.assertEqual(found, union(found, choice))
                for other in carried[:5]:
                    self.assertIn(union(choice, other), carried)
            kinds[(found == choices[-1], len(carried) > 1)] = True
        self.assertGreater(len(kinds), 2)


def kept_of(told):
    """The indices of the candidates without a rank."""
    def indices(found):
        return tuple(at for at, rank in enumerate(found) if rank is None)
    return {called: (indices(before), tuple(indices(found) for found in notes), indices(after)) for called, (before, notes, after) in told.items()}


def random_candidates(maker, made):
    """Some candidates for a program, and roots."""
    roots = tuple(called for called in made.names if maker.chance(0.3))
    candidates = {}
    for function in made.functions:
        def some(frame, most):
            claims = samples.Maker(frame, maker.random, 1)
            return tuple(("or", (claims.atom(), claims.atom())) if maker.chance(0.5) else claims.claim(1) for _ in range(maker.random.randint(0, most)))
        before = () if function.called in roots else some(function.start_frame, 2)
        candidates[function.called] = (before, tuple(some(function.end_frame, 2) for _ in function.notes), some(function.end_frame, 2))
    return candidates, roots


def subsets(claims):
    return [indices for size in range(len(claims) + 1) for indices in itertools.combinations(range(len(claims)), size)]


def all_choices(candidates):
    """All choices, the one of all candidates last."""
    parts = []
    for before, notes, after in candidates.values():
        parts.append([(one, inner, other) for one in subsets(before) for inner in itertools.product(*[subsets(claims) for claims in notes])
                      for other in subsets(after)])
    return [dict(zip(candidates, chosen)) for chosen in itertools.product(*parts)]


def union(one, other):
    def joined(mine, theirs):
        return tuple(sorted({*mine, *theirs}))
    return {called: (joined(one[called][0], other[called][0]), tuple(joined(*pair) for pair in zip(one[called][1], other[called][1])),
                     joined(one[called][2], other[called][2])) for called in one}


def plain_program(made, candidates, roots, choice):
    """The program with a choice."""
    functions = []
    for function in made.functions:
        before, notes, after = candidates[function.called]
        chosen = choice[function.called]
        functions.append(Function(
            function.called, arrays=function.arrays, positions=function.positions, values=function.amounts, loans=function.loans, places=function.places,
            numbers=function.numbers, rows=function.rows, notes=tuple(tuple(claims[at] for at in indices) for claims, indices in zip(notes, chosen[1])),
            before=function.before if function.called in roots else tuple(before[at] for at in chosen[0]), after=tuple(after[at] for at in chosen[2])))
    return Program(tuple(functions))


def plain_carried(made, candidates, roots, choice):
    """Whether a choice is carried, by the words of the document."""
    program = plain_program(made, candidates, roots, choice)
    for called in program.names:
        for piece in pieces(program, called):
            for kind, question in piece.questions():
                asked = kind[0] in ("note", "after") or (kind[0] == "before" and program[called].row(kind[1])[1] not in roots)
                if asked and not follows(question):
                    return False
    return True


class PaperTest(unittest.TestCase):
    """Papers of greatest choices."""

    BELOW = at_least("i", 1)
    CANDIDATES = for_counted(f=((BELOW,), ((at_least("j", 1), at_least("i", 1)),), (BELOW,)), g=((), (), (BELOW,)))

    def refuse(self, made, candidates, *values):
        for value in values:
            self.assertIs(False, is_choice_paper(made, candidates, value), value)

    def test_drops(self):
        choice, drops = choice_paper(COUNTED, self.CANDIDATES)
        self.assertEqual({("f", "before", 0), ("f", 0, 0), ("f", 0, 1), ("f", "after", 0), ("g", "after", 0)}, {drop[:3] for drop in drops})
        self.assertEqual(5, len(drops))
        for name, kind, index, caller, piece, question, situation in drops:
            self.assertIn(caller, ("f", "g"))
        self.assertEqual(choice_paper(COUNTED, self.CANDIDATES), (choice, drops))

    def test_of_the_program_of_then(self):
        # Each drop is one in the program with what was not dropped ahead of it.
        choice, drops = choice_paper(COUNTED, self.CANDIDATES)
        chosen = {called: [set(range(len(before))), [set(range(len(claims))) for claims in notes], set(range(len(after)))]
                  for called, (before, notes, after) in self.CANDIDATES.items()}
        for name, kind, index, caller, piece, question, situation in drops:
            now = {called: (tuple(sorted(before)), tuple(tuple(sorted(claims)) for claims in notes), tuple(sorted(after)))
                   for called, (before, notes, after) in chosen.items()}
            program = plain_program(COUNTED, self.CANDIDATES, (), now)
            told, asked = pieces(program, caller)[piece].questions()[question]
            self.assertTrue(asked.is_broken_by(situation))
            self.assertEqual({"before": "before", "after": "after"}.get(kind, "note"), told[0])
            part = chosen[name][0] if kind == "before" else chosen[name][2] if kind == "after" else chosen[name][1][kind]
            self.assertEqual(index, sorted(part)[told[-1]])
            part.remove(index)
        self.assertEqual(choice, {called: (tuple(before), tuple(tuple(claims) for claims in notes), tuple(after))
                                  for called, (before, notes, after) in chosen.items()})

    def test_other_orders(self):
        # Two claims that fall by themselves can be dropped in either order, with the indices of then.
        candidates = {"fill": ((), ((FALSE, *SPAN),), (ALL,)), "twice": ((), (), (FALSE,))}
        choice, drops = choice_paper(BOTH, candidates)
        self.assertEqual([("fill", 0, 0), ("fill", "after", 0), ("twice", "after", 0)], [drop[:3] for drop in drops])
        self.assertFalse(is_choice_paper(BOTH, candidates, (choice, drops[::-1])))
        self.assertFalse(is_choice_paper(BOTH, candidates, (choice, (drops[1], drops[0], drops[2]))))
        good = []
        for first, second, last in itertools.permutations(drops):
            if is_choice_paper(BOTH, candidates, (choice, (first, second, last))):
                good.append((first, second, last))
        self.assertIn(drops, good)
        # One that drops the claim behind twice first: it is question 0 of piece 0 there, too.
        question = pieces(plain_program(BOTH, candidates, (), {"fill": ((), ((0, 1, 2),), (0,)), "twice": ((), (), (0,))}), "twice")
        found = [(at, place) for at, piece in enumerate(question) for place, (kind, asked) in enumerate(piece.questions())
                 if kind == ("after", 0) and not follows(asked)]
        self.assertTrue(found)
        for at, place in found:
            situation = breaking(question[at].questions()[place][1])
            other = (("twice", "after", 0, "twice", at, place, situation), *drops[:2])
            self.assertTrue(is_choice_paper(BOTH, candidates, (choice, other)))

    def test_left_out_and_doubled(self):
        choice, drops = choice_paper(COUNTED, self.CANDIDATES)
        for at in range(len(drops)):
            self.refuse(COUNTED, self.CANDIDATES, (choice, drops[:at] + drops[at + 1:]), (choice, drops[:at] + drops[at:at + 1] + drops[at:]))
        self.refuse(COUNTED, self.CANDIDATES, (choice, ()), (choice, drops + drops[:1]))
        # A choice that is not what is left.
        whole = {"f": ((0,), ((0, 1),), (0,)), "g": ((), (), (0,))}
        self.refuse(COUNTED, self.CANDIDATES, (whole, drops), (whole, ()))

    def test_what_is_left_has_to_be_carried(self):
        choice, drops = choice_paper(COUNTED, self.CANDIDATES)
        first = drops[0][:3]
        left = {"f": ((0,), ((0, 1),), (0,)), "g": ((), (), (0,))}
        called, kind, index = first
        before, notes, after = left[called]
        left[called] = ((), notes, after) if kind == "before" else (before, notes, ()) if kind == "after" else (before, (tuple(at for at in notes[0] if at != index),), after)
        self.assertTrue(is_choice(COUNTED, self.CANDIDATES, left))
        self.refuse(COUNTED, self.CANDIDATES, (left, drops[:1]))

    def test_values_near_them(self):
        choice, drops = choice_paper(COUNTED, self.CANDIDATES)
        self.refuse(COUNTED, self.CANDIDATES, [choice, drops], (choice, list(drops)), (choice,), (choice, drops, ()), choice, drops, (drops, choice), (None, drops),
                    ({**choice, "f": ((), ((),), [])}, drops), *JUNK, deep_junk())
        for at, drop in enumerate(drops):
            for place in range(7):
                for value in JUNK + ("f", "g", "after", "before", 1, 2, 3, 99, drops[-1 - at][6]):
                    other = (*drop[:place], value, *drop[place + 1:])
                    told = is_choice_paper(COUNTED, self.CANDIDATES, (choice, (*drops[:at], other, *drops[at + 1:])))
                    if other == drop and not isinstance(value, bool):
                        self.assertTrue(told)
                    elif place < 6:
                        # Another caller, piece or question can be right only if it is about the same candidate.
                        self.assertFalse(told and place < 3, other)
                    else:
                        self.assertIs(told, broken_by(COUNTED, self.CANDIDATES, drops[:at], drop, value))
            for other in (drop[:-1], (*drop, ()), list(drop), None, ()):
                self.refuse(COUNTED, self.CANDIDATES, (choice, (*drops[:at], other, *drops[at + 1:])))

    def test_other_candidates(self):
        paper = choice_paper(COUNTED, self.CANDIDATES)
        self.refuse(COUNTED, for_counted(f=((TRUE,), ((TRUE, TRUE),), (TRUE,)), g=((), (), (TRUE,))), paper)
        self.assertTrue(is_choice_paper(COUNTED, self.CANDIDATES, paper, roots=("g",)))
        self.assertTrue(is_choice_paper(COUNTED, {"g": self.CANDIDATES["g"], "f": self.CANDIDATES["f"]}, paper))

    def test_what_is_told_is_no_way_in(self):
        choice, drops = choice_paper(COUNTED, self.CANDIDATES)
        choice.pop("f")
        self.assertEqual(["f", "g"], list(choice_paper(COUNTED, self.CANDIDATES)[0]))
        found = greatest_choice(COUNTED, self.CANDIDATES)
        found["g"] = None
        ranks(COUNTED, self.CANDIDATES)["f"] = None
        self.assertTrue(is_choice_paper(COUNTED, self.CANDIDATES, choice_paper(COUNTED, self.CANDIDATES)))
        self.assertEqual(for_counted(f=((), ((),), ())), greatest_choice(COUNTED, self.CANDIDATES))


def broken_by(made, candidates, ahead, drop, value):
    """Whether a value breaks the question of a drop, behind others."""
    chosen = {called: [set(range(len(before))), [set(range(len(claims))) for claims in notes], set(range(len(after)))]
              for called, (before, notes, after) in candidates.items()}
    for name, kind, index, *_ in ahead:
        (chosen[name][0] if kind == "before" else chosen[name][2] if kind == "after" else chosen[name][1][kind]).remove(index)
    now = {called: (tuple(sorted(before)), tuple(tuple(sorted(claims)) for claims in notes), tuple(sorted(after)))
           for called, (before, notes, after) in chosen.items()}
    return pieces(plain_program(made, candidates, (), now), drop[3])[drop[4]].questions()[drop[5]][1].is_broken_by(value)


class NamesTest(unittest.TestCase):
    """Other names change nothing but names."""

    def test_other_names(self):
        names = {"a": "x", "x": "a", "i": "n", "n": "i", "old": "o"}
        fill = FILL.with_notes(0, FOR_BOTH["fill"][1][0]).with_contract((), FOR_BOTH["fill"][2]).relabeled(names)
        made = Program((fill, TWICE)).renamed({"fill": "z"})
        candidates = {"z": ((), fill.notes, fill.after), "twice": NONE}
        self.assertEqual(ranks(BOTH, FOR_BOTH)["fill"], ranks(made, candidates)["z"])
        self.assertEqual(greatest_choice(BOTH, FOR_BOTH)["fill"], greatest_choice(made, candidates)["z"])


if __name__ == "__main__":
    unittest.main()
