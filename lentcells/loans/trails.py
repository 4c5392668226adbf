"""Trails: walks that grow, and walks to rows, facts and faults."""

from lentcells.base.frames import words_text
from lentcells.base.integers import check_undo, is_index
from lentcells.errors import InvalidNumber, InvalidOperation, TooMany
from lentcells.loans.facts import check_fact, check_row, function_of, state_of
from lentcells.loans.flow import facts_behind, row_faults
from lentcells.loans.walks import (
    MAX_WALK, Going, facts_along, has_fault_last, is_short_walk, nexts_behind)


class Trail:
    """A walk that grows."""

    def __init__(self, program, called, walk=()):
        function = function_of(program, called)
        if not is_short_walk(function, walk):
            raise InvalidOperation("this is no walk of at most 400 rows")
        self._program = program
        self._called = called
        self._function = function
        self._walk = list(walk)
        self._ahead = facts_along(program, function, walk)
        self._found = [self._faults_at(at) for at in range(len(walk))]

    @property
    def walk(self):
        """The rows that are gone."""
        return tuple(self._walk)

    @property
    def facts(self):
        """The state behind the walk."""
        return state_of(self._ahead[-1])

    @property
    def nexts(self):
        """The rows that can come next, the end among them."""
        return nexts_behind(self._function, self._walk)

    @property
    def faults(self):
        """The pairs (index in the walk, fault), in order."""
        return tuple([(at, fault) for at, found in enumerate(self._found) for fault in found])

    def _faults_at(self, at):
        return row_faults(self._program, self._function, self._walk[at], self._ahead[at])

    def go(self, row):
        """Go one more row, and return its faults."""
        if not is_index(row, len(self._function)) or row not in nexts_behind(self._function, self._walk):
            raise InvalidNumber(row)
        if len(self._walk) >= MAX_WALK:
            raise TooMany(MAX_WALK)
        self._ahead.append(facts_behind(self._program, self._function, row, self._ahead[-1]))
        self._walk.append(row)
        self._found.append(self._faults_at(len(self._walk) - 1))
        return self._found[-1]

    def undo(self, *, many=1):
        """Take the last rows back, and return the walk."""
        check_undo(many, len(self._walk))
        left = len(self._walk) - many
        self._walk = self._walk[:left]
        self._ahead = self._ahead[:left + 1]
        self._found = self._found[:left]
        return tuple(self._walk)

    def twin(self):
        """An equal one that goes on by itself."""
        return Trail(self._program, self._called, tuple(self._walk))

    def __len__(self):
        return len(self._walk)

    def __eq__(self, other):
        if not isinstance(other, Trail):
            return False
        return (self._called, self._walk, self._program) == (other._called, other._walk, other._program)

    def __str__(self):
        return f"{self._called}: {words_text([str(row) for row in self._walk])}"


def is_walk(program, called, value):
    """Whether the value is a walk of at most 400 rows."""
    return is_short_walk(function_of(program, called), value)


def walk_to(program, called, row, *, fact=None):
    """Any walk with the fewest rows behind which a row can come next, and the fact is so, if one is told."""
    function = function_of(program, called)
    check_row(function, row)
    if fact is not None:
        check_fact(function, fact)
    walk = Going(program, function).walk_to((row, fact))
    if walk is None:
        raise InvalidOperation("there is no such walk")
    return walk


def faulty_walk(program, called):
    """Any walk with the fewest rows whose last row has a fault, or None."""
    going = Going(program, function_of(program, called))
    for pair in going.pairs:
        if going.has_fault_at(pair):
            return (*going.walk_to(pair), pair[0])
    return None


def is_faulty_walk(program, called, value):
    """Whether the value is a walk of at most 400 rows whose last row has a fault."""
    function = function_of(program, called)
    return is_short_walk(function, value) and has_fault_last(program, function, value)
