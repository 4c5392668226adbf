"""Situations: rows for arrays, and integers for positions and values."""

from lentcells.base.frames import check_frame, is_position_over, is_value_over, words_text
from lentcells.base.integers import is_index, is_integer
from lentcells.errors import InvalidNumber, InvalidOperation, InvalidSituation, InvalidTerm, UnknownName
from lentcells.logic.claims import check_claim
from lentcells.world.looking import first_failure
from lentcells.world.meaning import Meaning


def has_just(value, words):
    """Whether the value is a dict from just these different words."""
    return isinstance(value, dict) and len(value) == len(words) and all([word in value for word in words])


def are_numbers(value, words):
    """Whether the value is a dict from just these words to integers."""
    return has_just(value, words) and all([is_integer(number) for number in value.values()])


def is_row(value):
    """Whether the value is a tuple of integers."""
    return isinstance(value, tuple) and all([is_integer(number) for number in value])


def are_rows(frame, value):
    """Whether the value is a dict from all arrays to rows, of one length for arrays that share it."""
    if not has_just(value, [array for array, length in frame.arrays]):
        return False
    if not all([is_row(row) for row in value.values()]):
        return False
    return len(set([(length, len(value[array])) for array, length in frame.arrays])) == len(frame.lengths)


def sorted_dict(table):
    """A copy of the dict with ascending keys."""
    return {word: table[word] for word in sorted(table)}


def row_text(row):
    """The text of the cells of an array."""
    return words_text([str(number) for number in row])


def numbers_text(words, numbers):
    """The text of the numbers of positions or values."""
    return words_text([f"{word}={numbers[word]}" for word in words])


def rows_text(arrays, rows):
    """The text of the rows of arrays."""
    return words_text([f"{array}={row_text(rows[array])}" for array, length in arrays])


def loose_situation(frame, rows, positions, amounts):
    """A situation of what is right but for integers that can be longer than those that are passed."""
    zeros = {word: 0 for word in frame.positions}
    made = Situation(frame, {array: () for array, length in frame.arrays}, zeros, {word: 0 for word in frame.amounts})
    made._keep(rows, positions, amounts)
    return made


class Situation:
    """A row of integers for each array of a frame, and an integer for each position and value."""

    def __init__(self, frame, rows, positions, values):
        check_frame(frame)
        if not are_rows(frame, rows):
            raise InvalidSituation("these are not rows for all arrays")
        if not are_numbers(positions, frame.positions) or not are_numbers(values, frame.amounts):
            raise InvalidSituation("these are not integers for all positions and values")
        self._frame = frame
        self._keep(rows, positions, values)

    def _keep(self, rows, positions, amounts):
        self._rows = sorted_dict(rows)
        self._positions = sorted_dict(positions)
        self._amounts = sorted_dict(amounts)
        self._lengths = sorted_dict({length: len(rows[array]) for array, length in self._frame.arrays})
        numbers = {"": 0, **self._positions, **self._lengths}
        self._meaning = Meaning(self._rows, numbers, {"": 0, **self._amounts})

    @property
    def frame(self):
        """The frame."""
        return self._frame

    @property
    def rows(self):
        """The dict from the arrays to their rows."""
        return sorted_dict(self._rows)

    @property
    def positions(self):
        """The dict from the positions to their integers."""
        return sorted_dict(self._positions)

    @property
    def amounts(self):
        """The dict from the values to their integers."""
        return sorted_dict(self._amounts)

    @property
    def lengths(self):
        """The dict from the lengths to how many cells their arrays have."""
        return sorted_dict(self._lengths)

    def cell(self, array, position):
        """The cell of an array, or 0 outside of it."""
        self._check_array(array)
        if not is_integer(position):
            raise InvalidNumber(position)
        return self._meaning.cell(array, position)

    def _check_array(self, array):
        if not self._frame.has_kind(array, ("array",)):
            raise UnknownName(array)

    def position_at(self, term):
        """What a position term is."""
        if not is_position_over(self._frame, term, ()):
            raise InvalidTerm("this is no position term")
        return self._meaning.position(term)

    def value_at(self, term):
        """What a value term is."""
        if not is_value_over(self._frame, term, ()):
            raise InvalidTerm("this is no value term")
        return self._meaning.content(term)

    def holds(self, claim):
        """Whether the claim is true."""
        check_claim(self._frame, claim)
        return self._meaning.holds(claim)

    def failure(self, claim):
        """The least tuple of integers for the own names of an all for which it is false, or None."""
        check_claim(self._frame, claim)
        if claim[0] != "all":
            raise InvalidOperation("this claim is no all")
        return first_failure(self._meaning, claim)

    def with_cell(self, array, position, content):
        """The situation with another integer in a cell."""
        self._check_array(array)
        row = self._rows[array]
        if not is_index(position, len(row)):
            raise InvalidNumber(position)
        check_content(content)
        changed = (*row[:position], content, *row[position + 1:])
        return loose_situation(self._frame, {**self._rows, array: changed}, self._positions, self._amounts)

    def with_number(self, word, content):
        """The situation with another integer for a position or value."""
        if not self._frame.has_kind(word, ("position", "value")):
            raise UnknownName(word)
        check_content(content)
        if word in self._positions:
            return loose_situation(self._frame, self._rows, {**self._positions, word: content}, self._amounts)
        return loose_situation(self._frame, self._rows, self._positions, {**self._amounts, word: content})

    def for_frame(self, frame):
        """The situation for another frame, in which all names have the same rows and integers."""
        check_frame(frame)
        if not is_within(frame, self._frame):
            raise InvalidOperation("a name is none of the same kind here, or an array has another length")
        rows = {array: self._rows[array] for array, length in frame.arrays}
        positions = {word: self._positions[word] for word in frame.positions}
        return loose_situation(frame, rows, positions, {word: self._amounts[word] for word in frame.amounts})

    def __eq__(self, other):
        if not isinstance(other, Situation) or self._frame != other._frame or self._rows != other._rows:
            return False
        return (self._positions, self._amounts) == (other._positions, other._amounts)

    def __len__(self):
        return len([number for row in self._rows.values() for number in row])

    def __str__(self):
        return " | ".join([
            rows_text(self._frame.arrays, self._rows),
            numbers_text(self._frame.positions, self._positions),
            numbers_text(self._frame.amounts, self._amounts),
        ])


def check_content(content):
    """Raise InvalidSituation if this is no integer."""
    if not is_integer(content):
        raise InvalidSituation("this is no integer")


def is_within(frame, wider):
    """Whether all names of a frame have the same kind, and all arrays the same length, in a wider one."""
    words = frame.positions + frame.amounts
    if not all([wider.has_kind(word, (frame.kind_of(word),)) for word in words]):
        return False
    return all([pair in wider.arrays for pair in frame.arrays])
