"""The form of rows: which tuples are rows of a function, and what stands in them."""

from lentcells.base.frames import is_name, is_position_over, is_value_over
from lentcells.base.integers import is_whole
from lentcells.logic.forms import MAX_DEPTH, alls_in, is_form, is_worded
from lentcells.logic.putting import put_in, put_short, put_term

MAX_INSIDE = 4
MAX_GIVEN_ARRAYS = 4
MAX_GIVEN_NUMBERS = 3
FORTY_DIGITS = 10 ** 40


class Scope:
    """What rows can name: a frame without was names, the ways of its arrays, and which names are locals."""

    def __init__(self, frame, ways, loans, places, amounts):
        self._frame = frame
        self._way_by_array = ways
        self._loans = loans
        self._places = places
        self._amounts = amounts

    def is_array(self, value):
        """Whether the value is an array name."""
        return self._frame.has_kind(value, ("array",))

    def is_full(self, value):
        """Whether the value is a full array name."""
        return self.is_array(value) and self._way_by_array[value] == "full"

    def is_position(self, value):
        """Whether the value is a position term."""
        return is_position_over(self._frame, value, ())

    def is_amount(self, value):
        """Whether the value is a value term."""
        return is_value_over(self._frame, value, ())

    def is_move(self, row):
        """Whether a local position gets the number of a position term."""
        return row[1] in self._places and self.is_position(row[2])

    def is_keep(self, row):
        """Whether a local value gets the number of a value term."""
        return row[1] in self._amounts and self.is_amount(row[2])

    def is_write(self, row):
        """Whether a cell of a full array gets the number of a value term."""
        return self.is_full(row[1]) and self.is_position(row[2:4]) and self.is_amount(row[4])

    def is_lend(self, row):
        """Whether a loan gets an array of its length that it can be lent by its way."""
        loan, array = row[1:]
        if loan not in self._loans or not self.is_array(array) or loan == array:
            return False
        if self._frame.length_of(loan) != self._frame.length_of(array):
            return False
        return self.is_full(array) or not self.is_full(loan)

    def is_call(self, row):
        """Whether a function is called with arrays and terms; whether they fit it is asked elsewhere."""
        limits = (MAX_GIVEN_ARRAYS, MAX_GIVEN_NUMBERS, MAX_GIVEN_NUMBERS)
        for given, most in zip(row[2:], limits):
            if not isinstance(given, tuple) or len(given) > most:
                return False
        if not is_name(row[1]) or not all([self.is_array(array) for array in row[2]]):
            return False
        return all([self.is_position(term) for term in row[3]]) and all([self.is_amount(term) for term in row[4]])

    def is_condition(self, value):
        """Whether the value is a claim without alls that can be a condition."""
        return is_form(self._frame, value, MAX_DEPTH - 1) and len(alls_in(value, True)) == 0


SIZES = {"move": 3, "keep": 3, "write": 5, "lend": 3, "call": 5, "if": 4, "while": 3}


def is_plain_row(scope, row):
    """Whether a tuple with the word and the size of a row that has no rows in it is one."""
    word = row[0]
    if word == "move":
        return scope.is_move(row)
    if word == "keep":
        return scope.is_keep(row)
    if word == "write":
        return scope.is_write(row)
    return scope.is_lend(row) if word == "lend" else scope.is_call(row)


def lists_in(row):
    """The tuples of rows that stand in a row."""
    return row[2:] if row[0] in ("if", "while") else ()


def is_row(scope, value, inside):
    """Whether the value is a row that stands so deep in others."""
    if not is_worded(value) or value[0] not in SIZES or len(value) != SIZES[value[0]]:
        return False
    if value[0] not in ("if", "while"):
        return is_plain_row(scope, value)
    return scope.is_condition(value[1]) and all([are_rows(scope, rows, inside + 1) for rows in value[2:]])


def are_rows(scope, value, inside):
    """Whether the value is a tuple of rows that stand so deep in others."""
    if not isinstance(value, tuple) or (len(value) > 0 and inside > MAX_INSIDE):
        return False
    return all([is_row(scope, row, inside) for row in value])


def has_short_numbers(value):
    """Whether no integer in a tuple of tuples has more than forty digits."""
    if isinstance(value, tuple):
        return all([has_short_numbers(part) for part in value])
    return not is_whole(value) or -FORTY_DIGITS < value < FORTY_DIGITS


def rows_in(rows):
    """All rows, also those in others, in the order of their beginnings."""
    return [inner for row in rows for inner in (row, *[more for part in lists_in(row) for more in rows_in(part)])]


def put_rows(rows, frame, words):
    """Rows for a frame, with other names of arrays, positions and values by a dict of all of them."""
    return tuple([put_row(row, frame, words) for row in rows])


def put_row(row, frame, words):
    """A row with other names."""
    word = row[0]
    terms = {old: (new, 0) for old, new in words.items()}
    if word in ("if", "while"):
        condition = put_in(row[1], frame, words, terms)
        return (word, condition, *[put_rows(rows, frame, words) for rows in row[2:]])
    if word == "call":
        arrays = tuple([words[array] for array in row[2]])
        positions = tuple([put_short(term, terms) for term in row[3]])
        return (word, row[1], arrays, positions, tuple([put_term(term, words, terms) for term in row[4]]))
    if word == "write":
        return (word, words[row[1]], *put_short(row[2:4], terms), put_term(row[4], words, terms))
    if word == "lend":
        return (word, words[row[1]], words[row[2]])
    return (word, words[row[1]], put_term(row[2], words, terms))


def calls_in(rows):
    """All calls among rows, in the order of their beginnings."""
    return [row for row in rows_in(rows) if row[0] == "call"]


def renamed_calls(rows, names):
    """Rows with other names of the functions that they call, by a dict from some of them."""
    made = []
    for row in rows:
        if row[0] == "call":
            made.append((row[0], names.get(row[1], row[1]), *row[2:]))
        else:
            kept = len(row) - len(lists_in(row))
            made.append((*row[:kept], *[renamed_calls(part, names) for part in lists_in(row)]))
    return tuple(made)
