"""Candidates for claims of a program, choices of them, and the questions about them."""

from lentcells.base.integers import is_index
from lentcells.code.functions import are_claims
from lentcells.code.programs import Program, check_program
from lentcells.errors import InvalidClaim, InvalidOperation
from lentcells.loans.tables import unsound
from lentcells.pieces.pieces import pieces
from lentcells.world.situations import has_just

TRIPLE = 3


def is_triple(value):
    """Whether the value is a tuple of what stands for before, for the notes and for after."""
    return isinstance(value, tuple) and len(value) == TRIPLE and isinstance(value[1], tuple)


def are_candidates_for(function, value):
    """Whether the value has candidates for the claims of a function."""
    if not is_triple(value) or len(value[1]) != len(function.notes):
        return False
    if not are_claims(function.start_frame, value[0]) or not are_claims(function.end_frame, value[2]):
        return False
    return all([are_claims(function.frame, claims) for claims in value[1]])


def check_candidates(program, candidates):
    """Raise InvalidClaim if these are no candidates for the program."""
    if not has_just(candidates, program.names):
        raise InvalidClaim("these are not candidates for all functions")
    for called in program.names:
        if not are_candidates_for(program[called], candidates[called]):
            raise InvalidClaim("these are no candidates for a function")


def check_roots(program, roots):
    """Raise InvalidOperation if this is no ascending tuple of names of functions."""
    if not isinstance(roots, tuple) or not all([called in program for called in roots]):
        raise InvalidOperation("this is no tuple of names of functions")
    if not all([one < other for one, other in zip(roots, roots[1:])]):
        raise InvalidOperation("these names are not ascending")


def whole_choice(candidates):
    """The choice of all candidates."""
    made = {}
    for called in sorted(candidates):
        before, notes, after = candidates[called]
        made[called] = (all_of(before), tuple([all_of(claims) for claims in notes]), all_of(after))
    return made


def all_of(claims):
    """The indices of all claims."""
    return tuple(list(range(len(claims))))


def are_indices(value, many):
    """Whether the value is an ascending tuple of indices of so many."""
    if not isinstance(value, tuple) or not all([is_index(index, many) for index in value]):
        return False
    return all([one < other for one, other in zip(value, value[1:])])


def is_part_choice(candidates, value):
    """Whether the value has indices of the candidates of one function."""
    before, notes, after = candidates
    if not is_triple(value) or len(value[1]) != len(notes):
        return False
    if not are_indices(value[0], len(before)) or not are_indices(value[2], len(after)):
        return False
    return all([are_indices(indices, len(claims)) for indices, claims in zip(value[1], notes)])


def is_choice_of(candidates, value):
    """Whether the value is a choice of candidates."""
    if not has_just(value, list(candidates)):
        return False
    return all([is_part_choice(candidates[called], value[called]) for called in candidates])


def picked(claims, indices):
    """The claims with these indices."""
    return tuple([claims[index] for index in indices])


def function_with(function, candidates, choice, is_root):
    """A function with the chosen candidates as its claims."""
    notes = tuple([picked(claims, indices) for claims, indices in zip(candidates[1], choice[1])])
    before = function.before if is_root else picked(candidates[0], choice[0])
    return function.with_rows(function.rows, notes).with_contract(before, picked(candidates[2], choice[2]))


def program_with(program, candidates, roots, choice):
    """The program with a choice."""
    made = []
    for function in program.functions:
        called = function.called
        made.append(function_with(function, candidates[called], choice[called], called in roots))
    return Program(tuple(made))


def checked_choice(program, candidates, roots):
    """The choice of all candidates, if all arguments are right."""
    check_program(program)
    check_candidates(program, candidates)
    check_roots(program, roots)
    if not all([len(candidates[called][0]) == 0 for called in roots]):
        raise InvalidOperation("a root has candidates for its fixed claims")
    choice = whole_choice(candidates)
    made = program_with(program, candidates, roots, choice)
    if len(unsound(made)) > 0:
        raise InvalidOperation("the program with all candidates is not sound")
    for called in made.names:
        pieces(made, called)
    return choice


def part_without(part, kind, index):
    """What is chosen of one function, without the candidate of a kind with this index."""
    before, notes, after = part
    if kind == "before":
        return (without(before, index), notes, after)
    if kind == "after":
        return (before, notes, without(after, index))
    return (before, (*notes[:kind], without(notes[kind], index), *notes[kind + 1:]), after)


def without(indices, index):
    """The indices without one of them."""
    return tuple([other for other in indices if other != index])


def chosen_of(choice, called, kind):
    """The chosen indices of a kind of candidates of a function."""
    before, notes, after = choice[called]
    if kind == "before":
        return before
    return after if kind == "after" else notes[kind]


class Chosen:
    """A program with a choice, and its questions, each with the candidate about which it is.

    A candidate is told by a triple (name, kind, index) as in papers. `asked_by` has for each function a list with a
    list of pairs (candidate, question) for each piece, with None in the place of a candidate where there is none.
    """

    def __init__(self, program, candidates, roots, choice):
        self._program = program
        self._candidates = candidates
        self._roots = roots
        self.choice = choice
        self._made = program_with(program, candidates, roots, choice)
        self.asked_by = {called: self._asked_of(called) for called in program.names}

    def _asked_of(self, caller):
        return [[(self._about(piece, kind), question) for kind, question in piece.questions()]
                for piece in pieces(self._made, caller)]

    def _about(self, piece, told):
        if told[0] == "inside":
            return None
        called, kind = piece.called, piece.stop
        if told[0] == "after":
            kind = "after"
        elif told[0] == "before":
            called, kind = self._program[piece.called].row(told[1])[1], "before"
            if called in self._roots:
                return None
        return (called, kind, chosen_of(self.choice, called, kind)[told[-1]])

    def drop(self, candidates):
        """Choose candidates no more."""
        callers = {}
        for called, kind, index in candidates:
            self.choice = {**self.choice, called: part_without(self.choice[called], kind, index)}
            callers[called] = True
            # Only the function itself asks about its notes; its contract is asked and given by its callers, too.
            for caller in self._program.callers(called) if kind in ("before", "after") else ():
                callers[caller] = True
        self._made = program_with(self._program, self._candidates, self._roots, self.choice)
        for caller in callers:
            self.asked_by[caller] = self._asked_of(caller)

    def all_asked(self):
        """The list of the tuples (caller, piece, question's index, candidate, question) about all candidates."""
        return [(caller, at, place, about, question) for caller, found in self.asked_by.items()
                for at, asked in enumerate(found) for place, (about, question) in enumerate(asked) if about is not None]
