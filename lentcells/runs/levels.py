"""Levels of a run: functions that have begun and not ended."""

from lentcells.loans.facts import state_of
from lentcells.loans.flow import empty_loans, facts_behind, loop_at, noted_loans, row_faults
from lentcells.world.meaning import Meaning


def note_faults(function, loop):
    """The faults that the notes of a loop can have."""
    return [(word, loan) for loan in noted_loans(function, loop) for word in ("empty", "ended")]


class Level:
    """A function that has begun; a level never changes, what comes next is another one.

    `spot_of` has the number of the place, or None, for each parameter and loan, and `back` the pairs of a place and
    the place into which its row is put at the end.
    """

    def __init__(self, function, caller):
        self.function = function
        self.caller = caller
        self.deep = 1 if caller is None else caller.deep + 1
        self.number = 0
        self.loan_facts = state_of(empty_loans(function))
        self.spot_of = {}
        self.position_of = {word: 0 for word in function.places}
        self.amount_of = {word: 0 for word in function.numbers}
        self.was_rows = {}
        self.back = ()

    def next_level(self, number, loan_facts):
        """The level behind a row of it, where this row is next."""
        made = Level(self.function, self.caller)
        made.number = number
        made.loan_facts = loan_facts
        made.spot_of = self.spot_of
        made.position_of = self.position_of
        made.amount_of = self.amount_of
        made.was_rows = self.was_rows
        made.back = self.back
        return made

    def row_of(self, rows, array):
        """The row of an array name; a loan without a place has zeros."""
        spot = self.spot_of[array]
        return (0,) * self.lengths_by(rows)[self.function.frame.length_of(array)] if spot is None else rows[spot]

    def lengths_by(self, rows):
        """The dict from the lengths to their integers, by the rows of all places."""
        return {told[2]: len(rows[self.spot_of[told[1]]]) for told in self.function.arrays}

    def first_false(self, rows, claims):
        """The index of the first claim that is false, by the rows of all places, or None."""
        meaning = self.meaning(rows)
        for place, claim in enumerate(claims):
            if not meaning.holds(claim):
                return place
        return None

    def false_note(self, rows):
        """What `first_break` tells of a note that is false, or None; notes with faults are not looked at."""
        loop = loop_at(self.function, self.number)
        if loop is None or any([fault in self.loan_facts for fault in note_faults(self.function, loop)]):
            return None
        place = self.first_false(rows, self.function.notes[loop])
        return None if place is None else ("note", self.function.called, loop, place)

    def meaning(self, rows):
        """What terms, conditions and claims mean, by the rows of all places."""
        held = {array: rows[spot] for array, spot in self.spot_of.items() if spot is not None}
        held = {**held, **self.was_rows}
        numbers = {"": 0, **self.position_of, **self.lengths_by(rows)}
        return Meaning(held, numbers, {"": 0, **self.amount_of})


def begun(function, caller, spots, positions, amounts, rows):
    """The level of a function that begins with these places, positions and values."""
    made = Level(function, caller)
    made.spot_of = {told[1]: None for told in function.loans}
    for told, spot in zip(function.arrays, spots):
        made.spot_of[told[1]] = spot
        if told[0] == "full":
            made.was_rows[told[3]] = rows[spot]
    for word, number in zip(function.positions, positions):
        made.position_of[word] = number
    for word, number in zip(function.amounts, amounts):
        made.amount_of[word] = number
    return made


class Lookup:
    """The faults of rows, and the states behind them, each found once."""

    def __init__(self, program):
        self._program = program
        self._found = {}

    def look(self, level):
        """The faults of the next row of a level by what is so of its loans, and the state behind it."""
        key = (level.function.called, level.number, level.loan_facts)
        if key not in self._found:
            facts = {fact: True for fact in level.loan_facts}
            faults = row_faults(self._program, level.function, level.number, facts)
            behind = state_of(facts_behind(self._program, level.function, level.number, facts))
            self._found[key] = (faults, behind)
        return self._found[key]
