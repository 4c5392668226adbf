"""What is promised over the whole program: its interface, its errors, and that its parts tell the same."""

import importlib
import inspect
import random
import unittest

from lentcells.base.frames import Frame
from lentcells.code.functions import Function
from lentcells.code.programs import Program
from lentcells.decide import follows as deciding
from lentcells.desk.desk import Desk
from lentcells.errors import (
    InvalidClaim, InvalidFrame, InvalidFunction, InvalidName, InvalidNumber, InvalidOperation, InvalidProgram, InvalidQuestion,
    InvalidSituation, InvalidTerm, NothingToUndo, ParseError, TooMany, UnknownName)
from lentcells.loans import facts, shapes, tables, trails
from lentcells.logic import claims
from lentcells.pieces import kept
from lentcells.pieces.pieces import pieces
from lentcells.runs import breaks
from lentcells.runs.runs import Run
from lentcells.solve import differences, trees
from lentcells.solve.questions import Question
from lentcells.text import texts
from lentcells.text.shell import Shell
from lentcells.use import contracts, greatest
from lentcells.world.situations import Situation
from making import ALL, BOTH, FALSE, FILL, LENT, SPAN, TRUE, TWICE, Maker
from plain_pieces import with_contracts
from samples import FRAME, JUNK, NEXT, SHOWN, UPTO, deep_junk

# What stands in each module of the interface, with its parameters; methods stand behind the names of their classes.
INTERFACE = {
    "errors": """ClaimError InvalidFrame InvalidTerm InvalidClaim InvalidSituation InvalidQuestion InvalidFunction InvalidProgram
        InvalidOperation InvalidName ParseError InvalidNumber UnknownName NothingToUndo TooMany Refused""",
    "base.frames": """is_name(value)|Frame(arrays, positions, values)|Frame.length_of(array)|Frame.kind_of(word)|Frame.is_fresh(value)|
        Frame.is_position_term(value, *, own=())|Frame.is_value_term(value, *, own=())|Frame.shifted(term, shift)|
        Frame.with_names(*, arrays=(), positions=(), values=())|Frame.renamed(names)""",
    "logic.claims": """is_claim(frame, value)|names_of(frame, claim)|replaced(frame, claim, terms)|
        carried(frame, claim, target, arrays, terms)|used_at(frame, claim, terms)|inside_claim(frame, array, term)|
        all_between(frame, low, high, op, one, other)|renamed_claim(frame, claim, names)""",
    "world.situations": """Situation(frame, rows, positions, values)|Situation.cell(array, position)|Situation.position_at(term)|
        Situation.value_at(term)|Situation.holds(claim)|Situation.failure(claim)|Situation.with_cell(array, position, content)|
        Situation.with_number(word, content)|Situation.for_frame(frame)""",
    "solve.differences": """fitting(differences)|is_fitting(differences, value)|ring(differences)|is_ring(differences, value)|
        tightest(differences, one, other)|differences_of(frame, claim)""",
    "solve.questions": """Question(frame, given, wanted)|Question.is_broken_by(value)|Question.new_numbers(situation)|
        Question.laid(situation)|Question.small(situation)|Question.with_given(claim)|Question.without_given(place)|
        Question.wanting(claim)""",
    "solve.trees": """is_tree(question, value)|facts_at(question, tree, node)|Closing(question)|Closing.part(fact, place)|
        Closing.cases(fact)|Closing.new(fact, names)|Closing.use(fact, terms)|Closing.apart(one, other)|Closing.same(array, fact)|
        Closing.outside(array, fact)|Closing.ring(steps)|Closing.undo(*, many=1)|Closing.twin()""",
    "decide.follows": """follows(question)|breaking(question)|paper(question)|is_paper(question, value)|core(question)|Asker(frame)|
        Asker.tell(claim)|Asker.ask(claim)|Asker.why(claim)|Asker.undo(*, many=1)|Asker.twin()""",
    "code.functions": """Function(called, *, arrays=(), positions=(), values=(), loans=(), places=(), numbers=(), rows=(), notes=(),
        before=(), after=())|Function.row(number)|Function.loop_of(number)|Function.way_of(array)|Function.with_rows(rows, notes)|
        Function.with_notes(loop, claims)|Function.with_contract(before, after)|Function.called_as(called)|Function.relabeled(names)""",
    "code.programs": """Program(functions)|Program.callers(called)|Program.needed(called)|Program.with_function(function)|
        Program.without(called)|Program.renamed(names)""",
    "loans.facts": """first_state(program, called)|is_state(program, called, value)|next_rows(program, called, row)|
        uses(program, called, row)|behind(program, called, row, state)|faults_of(program, called, row, state)""",
    "loans.tables": """Table(program, called)|Table.state(row)|Table.has(row, fact)|is_table(program, called, value)|
        is_closed(program, called, value)|unsound(program)""",
    "loans.trails": """Trail(program, called, walk=())|Trail.go(row)|Trail.undo(*, many=1)|Trail.twin()|
        is_walk(program, called, value)|walk_to(program, called, row, *, fact=None)|faulty_walk(program, called)|
        is_faulty_walk(program, called, value)""",
    "loans.shapes": """wanted(program, called, loop)|shapes(program, called, loop)|is_shape(program, called, loop, value)|
        shape_of(program, called, loop, walk)""",
    "runs.runs": """Run(program, called, situation, *, copying=False, careless=False)|Run.is_done()|Run.advance()|
        Run.advance_on(*, most=100)|Run.place_of(name)|Run.undo(*, many=1)|Run.twin()""",
    "runs.breaks": """outcome(program, called, situation, *, most=100, copying=False, careless=False)|
        first_break(program, called, situation, *, most=100)|parting(program, called, situation, *, most=100)""",
    "pieces.pieces": "pieces(program, called)|Piece.questions()|Piece.is_right()",
    "pieces.kept": """is_kept(program, called)|is_program_kept(program)|broken_questions(program, called)|kept_paper(program)|
        is_kept_paper(program, value)""",
    "use.contracts": """headings_alike(one, other)|contract_questions(one, other)|stands_in(one, other)|standing_paper(one, other)|
        is_standing_paper(one, other, value)""",
    "use.greatest": """is_choice(program, candidates, value, roots=())|greatest_choice(program, candidates, roots=())|
        ranks(program, candidates, roots=())|is_carried(program, candidates, value, roots=())|
        choice_paper(program, candidates, roots=())|is_choice_paper(program, candidates, value, roots=())|
        best_program(program, candidates, roots=())""",
    "desk.desk": """Desk()|Desk.put(functions)|Desk.take(name)|Desk.revise(name, change)|Desk.demand(claim)|Desk.waive(claim)|
        Desk.undo(*, many=1)|Desk.redo(*, many=1)|Desk.during(call)|Desk.twin()|Desk.whole()|Desk.callers(called)""",
    "text.texts": """write_claim(claim)|write_rows(rows)|write_function(function)|write_functions(functions)|read_claim(text)|
        read_rows(text)|read_function(text)|read_functions(text)|write_situation(situation)|read_situation(frame, text)""",
    "text.shell": "Shell()|Shell.answer(command)|Shell.desk()",
}
PROPERTIES = {
    "base.frames.Frame": "arrays positions amounts lengths", "world.situations.Situation": "frame rows positions amounts lengths",
    "solve.questions.Question": "frame claims goal members fresh few facts", "solve.trees.Closing": "facts open_nodes tree",
    "decide.follows.Asker": "known",
    "code.functions.Function": """called arrays positions loans places numbers rows notes before after amounts frame start_frame end_frame
        conditions callees""",
    "code.programs.Program": "functions names", "loans.tables.Table": "program called states faults is_sound",
    "loans.trails.Trail": "walk facts nexts faults",
    "runs.runs.Run": "program inner next_row fault depth steps trail situation",
    "pieces.pieces.Piece": "program called start stop shape answers trail frame claims facts names",
    "desk.desk.Desk": "names claims verdicts",
}
SIGNED = {
    "Frame": "contains len eq str", "Situation": "eq len str", "Question": "len eq str", "Closing": "bool len eq str", "Asker": "len contains eq str",
    "Function": "len iter eq str", "Program": "getitem contains len iter eq str", "Table": "len eq str", "Trail": "len eq str", "Run": "len eq str", "Piece": "eq str",
    "Desk": "getitem contains len iter eq str", "Shell": "call len str",
}
CONSTANTS = {
    "code.functions": {"MAX_ROWS": 24, "MAX_LOOPS": 4, "MAX_INSIDE": 4, "MAX_CLAIMS": 4}, "code.programs": {"MAX_FUNCTIONS": 6},
    "pieces.pieces": {"MAX_PIECES": 64, "MAX_WRITES": 4, "MAX_CALLS": 2}, "desk.desk": {"MAX_FUNCTIONS": 6, "MAX_CLAIMS": 8},
}
TREE = deciding.paper(NEXT)[1]
START = Situation(FILL.start_frame, {"a": (4, 5)}, {}, {"x": 7})
CANDIDATES = {"fill": ((), (SPAN,), (ALL,)), "twice": ((), (), ())}


def module(name):
    return importlib.import_module(f"lentcells.{name}")


class InterfaceTest(unittest.TestCase):
    """Each name exists as written, in the file under whose heading it stands."""

    def test_names_and_parameters(self):
        for name, text in INTERFACE.items():
            here = module(name)
            for entry in text.split("|") if "(" in text else text.split():
                entry = " ".join(entry.split())
                told, parameters = (entry.split("(", 1)[0], "(" + entry.split("(", 1)[1]) if "(" in entry else (entry, None)
                owner = here
                for part in told.split("."):
                    self.assertIn(part, vars(owner), f"{name}: {told}")
                    owner = vars(owner)[part]
                self.assertEqual(here.__name__, owner.__module__, told)
                if parameters is not None:
                    signature = inspect.signature(owner)
                    if "." in told:
                        signature = signature.replace(parameters=list(signature.parameters.values())[1:])
                    self.assertEqual(parameters, str(signature), told)

    def test_properties(self):
        for name, words in PROPERTIES.items():
            path, called = name.rsplit(".", 1)
            owner = getattr(module(path), called)
            for word in words.split():
                self.assertIsInstance(vars(owner)[word], property, f"{name}.{word}")

    def test_signs(self):
        owners = {part: getattr(module(name), part) for name in INTERFACE for part in SIGNED if hasattr(module(name), part)
                  and getattr(module(name), part).__module__ == f"lentcells.{name}"}
        self.assertEqual(sorted(SIGNED), sorted(owners))
        for part, owner in owners.items():
            for sign in SIGNED[part].split():
                self.assertIn(f"__{sign}__", vars(owner), part)

    def test_constants(self):
        for name, told in CONSTANTS.items():
            for word, number in told.items():
                self.assertEqual(number, getattr(module(name), word))


# Rows of a call, right arguments and the errors for each of them; None where any value is right, and a function that tells
# which values of JUNK are right for a parameter. Keywords stand behind the others.
FRAMED, PROGRAMMED = InvalidFrame, InvalidProgram
ERRORS = (
    (Frame, ((), (), ()), (InvalidFrame, InvalidFrame, InvalidFrame)),
    (FRAME.length_of, ("a",), (UnknownName,)), (FRAME.kind_of, ("a",), (UnknownName,)), (FRAME.shifted, (("i", 0), 1), (InvalidTerm, InvalidNumber)),
    (FRAME.renamed, ({},), (InvalidOperation,)), (claims.is_claim, (FRAME, UPTO), (FRAMED, None)), (claims.names_of, (FRAME, UPTO), (FRAMED, InvalidClaim)),
    (claims.replaced, (FRAME, UPTO, {}), (FRAMED, InvalidClaim, InvalidOperation)),
    (claims.carried, (FRAME, UPTO, FRAME, {"a": "a"}, {"i": ("i", 0), "j": ("j", 0), "x": ("x", 0)}), (FRAMED, InvalidClaim, FRAMED, InvalidOperation, InvalidOperation)),
    (claims.used_at, (FRAME, UPTO, (("i", 0),)), (FRAMED, InvalidClaim, InvalidOperation)),
    (claims.inside_claim, (FRAME, "a", ("i", 0)), (FRAMED, UnknownName, InvalidTerm)),
    (claims.all_between, (FRAME, ("i", 0), ("j", 0), "<", ("x", 0), ("x", 1)), (FRAMED, InvalidTerm, InvalidTerm, InvalidOperation, InvalidTerm, InvalidTerm)),
    (claims.renamed_claim, (FRAME, UPTO, {}), (FRAMED, InvalidClaim, InvalidOperation)),
    (Situation, (FRAME, {"a": ()}, {"i": 0, "j": 0}, {"x": 0}), (FRAMED, InvalidSituation, InvalidSituation, InvalidSituation)),
    (SHOWN.cell, ("a", 0), (UnknownName, InvalidNumber)), (SHOWN.position_at, (("i", 0),), (InvalidTerm,)), (SHOWN.value_at, (("x", 0),), (InvalidTerm,)),
    (SHOWN.holds, (UPTO,), (InvalidClaim,)), (SHOWN.failure, (UPTO,), (InvalidClaim,)), (SHOWN.with_cell, ("a", 0, 1), (UnknownName, InvalidNumber, InvalidSituation)),
    (SHOWN.with_number, ("x", 0), (UnknownName, InvalidSituation)), (SHOWN.for_frame, (FRAME,), (FRAMED,)),
    (differences.fitting, ((),), (InvalidOperation,)), (differences.is_fitting, ((), {}), (InvalidOperation, None)), (differences.ring, ((),), (InvalidOperation,)),
    (differences.is_ring, ((), ()), (InvalidOperation, None)), (differences.tightest, ((), "i", "j"), (InvalidOperation, InvalidTerm, InvalidTerm)),
    (differences.differences_of, (FRAME, ("pos", "<", ("i", 0), ("j", 0))), (FRAMED, InvalidClaim)),
    (Question, (FRAME, (), UPTO), (FRAMED, InvalidQuestion, InvalidQuestion)), (NEXT.new_numbers, (SHOWN,), (InvalidSituation,)), (NEXT.laid, (SHOWN,), (InvalidSituation,)),
    (NEXT.small, (SHOWN,), (InvalidSituation,)), (NEXT.with_given, (UPTO,), (InvalidClaim,)), (NEXT.without_given, (0,), (InvalidNumber,)), (NEXT.wanting, (UPTO,), (InvalidClaim,)),
    (trees.is_tree, (NEXT, TREE), (InvalidQuestion, None)), (trees.facts_at, (NEXT, TREE, 0), (InvalidQuestion, InvalidOperation, InvalidNumber)), (trees.Closing, (NEXT,), (InvalidQuestion,)),
    (deciding.follows, (NEXT,), (InvalidQuestion,)), (deciding.breaking, (NEXT,), (InvalidQuestion,)), (deciding.paper, (NEXT,), (InvalidQuestion,)),
    (deciding.is_paper, (NEXT, None), (InvalidQuestion, None)), (deciding.core, (NEXT,), (InvalidQuestion,)), (deciding.Asker, (FRAME,), (FRAMED,)),
    (Function, ("f",), (InvalidName,)), (FILL.row, (0,), (InvalidNumber,)), (FILL.loop_of, (0,), (InvalidNumber,)), (FILL.way_of, ("a",), (UnknownName,)),
    (FILL.with_rows, (FILL.rows, FILL.notes), (InvalidFunction, InvalidFunction)), (FILL.with_notes, (0, ()), (InvalidNumber, InvalidFunction)),
    (FILL.with_contract, ((), ()), (InvalidFunction, InvalidFunction)), (FILL.called_as, ("f",), (InvalidName,)), (FILL.relabeled, ({},), (InvalidOperation,)),
    (Program, ((FILL,),), (InvalidProgram,)), (BOTH.callers, ("fill",), (UnknownName,)), (BOTH.needed, ("fill",), (UnknownName,)), (BOTH.with_function, (FILL,), (InvalidFunction,)),
    (BOTH.without, ("twice",), (UnknownName,)), (BOTH.renamed, ({},), (InvalidOperation,)), (lambda called: BOTH[called], ("fill",), (UnknownName,)),
    (facts.first_state, (LENT, "f"), (PROGRAMMED, UnknownName)), (facts.is_state, (LENT, "f", ()), (PROGRAMMED, UnknownName, None)), (facts.next_rows, (LENT, "f", 2), (PROGRAMMED, UnknownName, InvalidNumber)),
    (facts.uses, (LENT, "f", 2), (PROGRAMMED, UnknownName, InvalidNumber)), (facts.behind, (LENT, "f", 2, ()), (PROGRAMMED, UnknownName, InvalidNumber, InvalidOperation)),
    (facts.faults_of, (LENT, "f", 2, ()), (PROGRAMMED, UnknownName, InvalidNumber, InvalidOperation)), (tables.Table, (LENT, "f"), (PROGRAMMED, UnknownName)),
    (tables.Table(LENT, "f").state, (2,), (InvalidNumber,)), (tables.Table(LENT, "f").has, (2, ("empty", "r")), (InvalidNumber, InvalidOperation)),
    (tables.is_table, (LENT, "f", ()), (PROGRAMMED, UnknownName, None)), (tables.is_closed, (LENT, "f", ()), (PROGRAMMED, UnknownName, None)), (tables.unsound, (LENT,), (PROGRAMMED,)),
    (trails.Trail, (LENT, "f", (0,)), (PROGRAMMED, UnknownName, InvalidOperation)), (trails.is_walk, (LENT, "f", ()), (PROGRAMMED, UnknownName, None)),
    (trails.walk_to, (LENT, "f", 2), (PROGRAMMED, UnknownName, InvalidNumber)), (trails.faulty_walk, (LENT, "f"), (PROGRAMMED, UnknownName)),
    (trails.is_faulty_walk, (LENT, "f", ()), (PROGRAMMED, UnknownName, None)), (shapes.wanted, (LENT, "f", 0), (PROGRAMMED, UnknownName, InvalidNumber)),
    (shapes.shapes, (LENT, "f", 0), (PROGRAMMED, UnknownName, InvalidNumber)), (shapes.is_shape, (LENT, "f", 0, ()), (PROGRAMMED, UnknownName, InvalidNumber, None)),
    (shapes.shape_of, (LENT, "f", 0, (0,)), (PROGRAMMED, UnknownName, InvalidNumber, InvalidOperation)),
    (Run, (BOTH, "fill", START), (PROGRAMMED, UnknownName, InvalidSituation)), (Run(BOTH, "fill", START).place_of, ("a",), (UnknownName,)),
    (breaks.outcome, (BOTH, "fill", START), (PROGRAMMED, UnknownName, InvalidSituation)), (breaks.first_break, (BOTH, "fill", START), (PROGRAMMED, UnknownName, InvalidSituation)),
    (breaks.parting, (BOTH, "fill", START), (PROGRAMMED, UnknownName, InvalidSituation)), (pieces, (BOTH, "fill"), (PROGRAMMED, UnknownName)),
    (kept.is_kept, (BOTH, "fill"), (PROGRAMMED, UnknownName)), (kept.is_program_kept, (BOTH,), (PROGRAMMED,)), (kept.broken_questions, (BOTH, "fill"), (PROGRAMMED, UnknownName)),
    (kept.kept_paper, (BOTH,), (PROGRAMMED,)), (kept.is_kept_paper, (BOTH, None), (PROGRAMMED, None)), (contracts.headings_alike, (FILL, TWICE), (InvalidFunction, InvalidFunction)),
    (contracts.contract_questions, (FILL, FILL), (InvalidFunction, InvalidFunction)), (contracts.stands_in, (FILL, FILL), (InvalidFunction, InvalidFunction)),
    (contracts.standing_paper, (FILL, FILL), (InvalidFunction, InvalidFunction)), (contracts.is_standing_paper, (FILL, FILL, None), (InvalidFunction, InvalidFunction, None)),
    (greatest.is_choice, (BOTH, CANDIDATES, None, ()), (PROGRAMMED, InvalidClaim, None, InvalidOperation)), (greatest.greatest_choice, (BOTH, CANDIDATES, ()), (PROGRAMMED, InvalidClaim, InvalidOperation)),
    (greatest.ranks, (BOTH, CANDIDATES, ()), (PROGRAMMED, InvalidClaim, InvalidOperation)), (greatest.is_carried, (BOTH, CANDIDATES, None, ()), (PROGRAMMED, InvalidClaim, None, InvalidOperation)),
    (greatest.choice_paper, (BOTH, CANDIDATES, ()), (PROGRAMMED, InvalidClaim, InvalidOperation)), (greatest.is_choice_paper, (BOTH, CANDIDATES, None, ()), (PROGRAMMED, InvalidClaim, None, InvalidOperation)),
    (greatest.best_program, (BOTH, CANDIDATES, ()), (PROGRAMMED, InvalidClaim, InvalidOperation)), (Desk().put, ((FILL,),), (InvalidFunction,)), (Desk().take, ("fill",), (UnknownName,)),
    (Desk().demand, (("kept", "fill"),), (InvalidOperation,)), (Desk().waive, (("kept", "fill"),), (InvalidOperation,)), (Desk().callers, ("fill",), (UnknownName,)),
    (lambda called: Desk()[called], ("fill",), (UnknownName,)), (texts.write_claim, (TRUE,), (InvalidClaim,)), (texts.write_rows, ((),), (InvalidFunction,)),
    (texts.write_function, (FILL,), (InvalidFunction,)), (texts.write_functions, ((FILL,),), (InvalidFunction,)), (texts.read_claim, ("and()",), (ParseError,)), (texts.read_rows, ("i := 0",), (ParseError,)),
    (texts.read_function, (texts.write_function(FILL),), (ParseError,)), (texts.read_functions, (texts.write_function(FILL),), (ParseError,)), (texts.write_situation, (SHOWN,), (InvalidSituation,)),
    (texts.read_situation, (FRAME, str(SHOWN)), (FRAMED, ParseError)),
)
# Keywords, with their right values and errors, and what comes ahead of them.
KEYWORDS = (
    (FRAME.is_position_term, (None,), {"own": (("k",), InvalidTerm)}), (FRAME.is_value_term, (None,), {"own": (("k",), InvalidTerm)}),
    (FRAME.with_names, (), {"arrays": ((), InvalidFrame), "positions": ((), InvalidFrame), "values": ((), InvalidFrame)}),
    (Function, ("f",), {word: ((), InvalidFunction) for word in ("arrays", "positions", "values", "loans", "places", "numbers", "rows", "notes", "before", "after")}),
    (trails.walk_to, (LENT, "f", 2), {"fact": (("held", "r"), InvalidOperation)}), (Run, (BOTH, "fill", START), {"copying": (True, InvalidOperation), "careless": (False, InvalidOperation)}),
    (Run(BOTH, "fill", START).advance_on, (), {"most": (0, InvalidNumber)}), (Run(BOTH, "fill", START).undo, (), {"many": (0, InvalidNumber)}),
    (breaks.outcome, (BOTH, "fill", START), {"most": (3, InvalidNumber), "copying": (True, InvalidOperation), "careless": (False, InvalidOperation)}),
    (breaks.first_break, (BOTH, "fill", START), {"most": (3, InvalidNumber)}), (breaks.parting, (BOTH, "fill", START), {"most": (3, InvalidNumber)}),
    (trees.Closing(NEXT).undo, (), {"many": (0, InvalidNumber)}), (deciding.Asker(FRAME).undo, (), {"many": (0, InvalidNumber)}), (trails.Trail(LENT, "f").undo, (), {"many": (0, InvalidNumber)}),
    (Desk().undo, (), {"many": (0, InvalidNumber)}), (Desk().redo, (), {"many": (0, InvalidNumber)}),
)
# What JUNK has that is right somewhere, or wrong with another error that comes behind.
BEHIND = (InvalidOperation, InvalidQuestion, UnknownName, TooMany, InvalidProgram, NothingToUndo, InvalidSituation)


def fits(call, passed, keywords):
    """Whether a call with these arguments is right."""
    try:
        call(*passed, **keywords)
        return True
    except BEHIND:
        return False


class ErrorsTest(unittest.TestCase):
    """Each function raises what is asked for every invalid argument."""

    VALUES = JUNK + (deep_junk(), -10 ** 100, 10 ** 99, "x" * 100000, "(" * 1000, ("not",) * 5, [[]], {"a": {}}, {None: None}, {(): ()}, BOTH, FILL, NEXT, Desk(), Shell(), Run(BOTH, "fill", START))

    def raised(self, call, passed, keywords=None):
        """The class of the error that a call raises, or None."""
        try:
            call(*passed, **(keywords or {}))
        except Exception as error:  # pylint: disable=broad-except
            return error.__class__
        return None

    def test_each_argument(self):
        for call, right, errors in ERRORS:
            for place, error in enumerate(errors):
                for value in self.VALUES:
                    found = self.raised(call, (*right[:place], value, *right[place + 1:]))
                    if error is None:
                        self.assertIsNone(found, (call, place, value))
                    elif found is not error:
                        # The value is right; then it is of the kind of the right one.
                        self.assertTrue(found is None or found in BEHIND, (call, place, value, found))
                        self.assertTrue(isinstance(value, right[place].__class__), (call, place, value, found))

    def test_the_first_one_decides(self):
        for call, right, errors in ERRORS:
            for place, error in enumerate(errors):
                if error is not None:
                    # None is never right, and all arguments behind are wrong, too.
                    passed = (*right[:place], None, *[None for _ in right[place + 1:]])
                    self.assertIs(error, self.raised(call, passed), (call, place))

    def test_keywords(self):
        for call, right, told in KEYWORDS:
            for word, (value, error) in told.items():
                self.assertIsNone(self.raised(call, right, {word: value}), (call, word))
                for wrong in self.VALUES:
                    found = self.raised(call, right, {word: wrong})
                    if found is not error:
                        kinds = (value.__class__, None.__class__) if word == "fact" else (value.__class__,)
                        self.assertTrue(found is None or found in BEHIND, (call, word, wrong, found))
                        self.assertTrue(isinstance(wrong, kinds), (call, word, wrong, found))
                if right and call not in (FRAME.is_position_term, FRAME.is_value_term):
                    passed = (None,) * len(right)
                    self.assertIsNot(error if call is not Function else None, self.raised(call, passed, {word: None}), (call, word))

    def test_booleans_are_no_integers(self):
        for call, passed, error in (
                (SHOWN.cell, ("a", True), InvalidNumber), (SHOWN.with_number, ("i", False), InvalidSituation), (NEXT.without_given, (False,), InvalidNumber), (FILL.row, (True,), InvalidNumber),
                (FILL.with_notes, (False, ()), InvalidNumber), (facts.uses, (LENT, "f", True), InvalidNumber), (shapes.wanted, (LENT, "f", False), InvalidNumber),
                (texts.write_claim, (("pos", "<", ("i", True), ("i", 0)),), InvalidClaim), (texts.write_rows, ((("move", "i", ("", False)),),), InvalidFunction)):
            self.assertIs(error, self.raised(call, passed))
        for call, keywords in ((Run(BOTH, "fill", START).advance_on, {"most": True}), (Desk().undo, {"many": False})):
            self.assertIs(InvalidNumber, self.raised(call, (), keywords))

    def test_nothing_that_is_passed_is_changed(self):
        rand = random.Random(0)
        for call, right, errors in ERRORS:
            before = repr([repr(part) for part in right if isinstance(part, (tuple, dict, str, int))])
            for place in range(len(right)):
                self.raised(call, (*right[:place], rand.choice(self.VALUES), *right[place + 1:]))
            self.assertEqual(before, repr([repr(part) for part in right if isinstance(part, (tuple, dict, str, int))]))


class AlikeTest(unittest.TestCase):
    """The parts of the program tell the same of one program."""

    def programs(self, many):
        """Random programs that can be asked."""
        for seed in range(many):
            maker = Maker(seed)
            made = with_contracts(maker, maker.program(maker.random.choice((1, 2, 3)), maker.random.choice((2, 4, 6))))
            try:
                kept.kept_paper(made)
            except (TooMany, InvalidOperation):
                continue
            yield maker, made

    def test_one_program(self):
        seen = {}
        for maker, made in self.programs(250):
            shell, desk = Shell(), Desk()
            text = texts.write_functions(made.functions)
            self.assertEqual(made, Program(texts.read_functions(text)))
            try:
                news = desk.put(made.functions)
            except (TooMany, InvalidOperation):
                continue
            self.assertEqual("; ".join(f"{called} {verdict}" for called, verdict in news), shell("put " + text))
            self.assertEqual(desk, shell.desk())
            self.assertEqual(made, desk.whole())
            for called in made.names:
                table = tables.Table(made, called)
                verdict = "faulty" if not table.is_sound else "kept" if kept.is_kept(made, called) else "broken"
                seen[verdict] = True
                self.assertEqual(verdict, desk.verdicts[called])
                self.assertEqual("; ".join(" ".join(map(str, (row, *fault))) for row, fault in table.faults) or "none", shell(f"faults {called}"))
                self.assertEqual(texts.write_function(made[called]), shell(f"show {called}"))
                self.assertIs(table.is_sound, trails.faulty_walk(made, called) is None)
                if verdict != "faulty":
                    self.assertIs(verdict == "kept", kept.broken_questions(made, called) == ())
                    self.assertIs(verdict == "kept", all(piece.is_right() for piece in pieces(made, called)))
            word = kept.kept_paper(made)[0]
            self.assertIs(word == "kept", set(desk.verdicts.values()) == {"kept"})
            self.assertIs(word == "faulty", "faulty" in desk.verdicts.values())
            self.assertIs(word == "kept", kept.is_program_kept(made))
            self.assertIs(word == "kept", all(kept.is_kept(made, called) for called in made.names))
        self.assertEqual({"broken", "faulty", "kept"}, set(seen))

    def test_kept_programs_break_no_claim(self):
        runs = 0
        for maker, made in self.programs(250):
            for called in [called for called in made.names if kept.is_program_kept(made)]:
                for _ in range(4):
                    begin = maker.situation(made[called].start_frame)
                    found = breaks.first_break(made, called, begin)
                    if found is None or found[0] != "before" or found[1] != called:
                        runs += 1
                        self.assertIsNone(found)
                        self.assertIn(breaks.outcome(made, called, begin)[0], ("end", "long"))
                        self.assertIsNone(breaks.parting(made, called, begin))
        self.assertGreater(runs, 20)

    def test_other_names(self):
        for maker, made in self.programs(80):
            names = dict(zip(made.names, ("x", "fill", "k")))
            other = made.renamed(names)
            functions = []
            for function in other.functions:
                words = sorted({*[array for array, length in function.frame.arrays], *function.frame.lengths, *function.frame.positions, *function.frame.amounts})
                turned = words[1:] + words[:1]
                functions.append(function.relabeled(dict(zip(words, turned))))
            other = Program(tuple(functions))
            try:
                self.assertEqual(kept.kept_paper(made)[0], kept.kept_paper(other)[0])
            except TooMany:
                continue
            self.assertEqual(tuple(sorted(names[called] for called in tables.unsound(made))), tables.unsound(other))
            for called in made.names:
                self.assertIs(tables.Table(made, called).is_sound, tables.Table(other, names[called]).is_sound)
                if tables.Table(made, called).is_sound:
                    self.assertEqual(kept.is_kept(made, called), kept.is_kept(other, names[called]))
                    self.assertEqual(sorted(str(piece).split(" from ")[1] for piece in pieces(made, called)), sorted(str(piece).split(" from ")[1] for piece in pieces(other, names[called])))
                    self.assertEqual(len(kept.broken_questions(made, called)), len(kept.broken_questions(other, names[called])))

    def test_the_main_guarantee(self):
        # [0.26]: what is not true, by small programs.
        # No run comes behind the loop, as i is 0; but without a note a situation that breaks a question has another i.
        loop = Function("f", places=("i",), rows=(("while", ("pos", "<=", ("i", 0), ("", 0)), ()),), notes=((),), after=(FALSE,))
        self.assertFalse(kept.is_program_kept(Program((loop,))))
        self.assertTrue(kept.is_program_kept(Program((loop.with_notes(0, (("pos", "==", ("i", 0), ("", 0)),)),))))
        self.assertIsNone(breaks.first_break(Program((loop,)), "f", Situation(Frame((), (), ()), {}, {}, {})))
        # A call changes only what is fully lent to it, without a claim.
        g = Function("g", arrays=(("full", "p", "k", "o"), ("look", "q", "k")))
        claim = ("val", "==", ("b", "", 0, 0), ("w", "", 0, 0))
        f = Function("f", arrays=(("full", "a", "n", "u"), ("full", "b", "n", "w")), rows=(("call", "g", ("a", "b"), (), ()),), after=(claim,))
        self.assertTrue(kept.is_program_kept(Program((f, g))))
        # Two looks can be of one array.
        twice = Function("f", arrays=(("look", "a", "n"),), rows=(("call", "h", ("a", "a"), (), ()),))
        h = Function("h", arrays=(("look", "p", "k"), ("look", "q", "k")))
        self.assertTrue(kept.is_program_kept(Program((twice, h))))


if __name__ == "__main__":
    unittest.main()
