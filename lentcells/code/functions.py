"""Functions: parameters and locals, rows, notes and contracts."""

from lentcells.base.frames import Frame, are_names, is_frame_of, is_name
from lentcells.base.integers import is_index
from lentcells.code.layout import Layout
from lentcells.code.rows import Scope, are_rows, calls_in, has_short_numbers, put_rows, rows_in
from lentcells.errors import InvalidFunction, InvalidName, InvalidNumber, UnknownName
from lentcells.logic.claims import is_claim, renamed_claim

MAX_ROWS = 24
MAX_LOOPS = 4
MAX_INSIDE = 4
MAX_CLAIMS = 4
MAX_ARRAYS = 4
MAX_LOANS = 3
MAX_OF_KIND = 3
# With how many words a way, an array and its length are told, and with a was name.
WORDS = 3
WORDS_WITH_WAS = 4


def is_told(value, full_words):
    """Whether the value is a tuple of a way and more, with so many members for a full array."""
    if not isinstance(value, tuple) or len(value) == 0 or value[0] not in ("full", "look"):
        return False
    return len(value) == (full_words if value[0] == "full" else WORDS)


def are_told(value, full_words, most):
    """Whether the value is a tuple of at most so many arrays that are told so."""
    return isinstance(value, tuple) and len(value) <= most and all([is_told(told, full_words) for told in value])


def are_claims(frame, value):
    """Whether the value is a tuple of at most four claims for the frame, without too long integers."""
    if not isinstance(value, tuple) or len(value) > MAX_CLAIMS:
        return False
    return all([is_claim(frame, claim) and has_short_numbers(claim) for claim in value])


def pairs_of(told):
    """The pairs (array, length) of arrays that are told with their ways."""
    return tuple([(words[1], words[2]) for words in told])


def was_pairs(arrays):
    """The pairs (was name, length) of the full parameters."""
    return tuple([(words[3], words[2]) for words in arrays if words[0] == "full"])


def check_heading(passed):
    """Raise InvalidFunction if what was passed has no names that make a frame together."""
    arrays, loans = passed["arrays"], passed["loans"]
    if not are_told(arrays, WORDS_WITH_WAS, MAX_ARRAYS) or not are_told(loans, WORDS, MAX_LOANS):
        raise InvalidFunction("these are not parameters and loans")
    for kind in ("positions", "values", "places", "numbers"):
        if not are_names(passed[kind], MAX_OF_KIND):
            raise InvalidFunction("these are not names of positions or values")
    lengths = [words[2] for words in arrays]
    if not all([words[2] in lengths for words in loans]):
        raise InvalidFunction("a loan has no length of a parameter")
    pairs = pairs_of(arrays) + pairs_of(loans) + was_pairs(arrays)
    if not is_frame_of(pairs, passed["positions"] + passed["places"], passed["values"] + passed["numbers"]):
        raise InvalidFunction("the names do not make a frame")


def check_rows(scope, rows):
    """Raise InvalidFunction if these are no rows, or too many."""
    if not are_rows(scope, rows, 0) or not has_short_numbers(rows):
        raise InvalidFunction("these are not rows of the function")
    flat = rows_in(rows)
    if len(flat) > MAX_ROWS or len([row for row in flat if row[0] == "while"]) > MAX_LOOPS:
        raise InvalidFunction("these are too many rows or loops")


def words_within(frame, names):
    """Those of the names that are old names of a frame."""
    return {old: new for old, new in names.items() if old in frame}


def renamed_claims(frame, claims, names):
    """Claims of a frame with other names, by a dict from names that can be others, too."""
    return tuple([renamed_claim(frame, claim, words_within(frame, names)) for claim in claims])


class Function:
    """What a function is made of; it never changes."""

    def __init__(self, called, *, arrays=(), positions=(), values=(), loans=(), places=(), numbers=(), rows=(),
                 notes=(), before=(), after=()):
        if not is_name(called):
            raise InvalidName("this is no name of a function")
        self._called = called
        self._passed = {
            "arrays": arrays, "positions": positions, "values": values, "loans": loans, "places": places,
            "numbers": numbers, "rows": rows, "notes": notes, "before": before, "after": after,
        }
        check_heading(self._passed)
        self._make_frames(arrays, positions, values)
        check_rows(self._scope(), rows)
        self._layout = Layout(rows)
        self._flat = self._layout.flat
        self._conditions = tuple([self._flat[number][1] for number in self._layout.loops])
        self._callees = tuple(sorted(set([row[1] for row in calls_in(rows)])))
        self._check_claims()

    def _make_frames(self, arrays, positions, values):
        loans, places, numbers = self._passed["loans"], self._passed["places"], self._passed["numbers"]
        parameters, was = pairs_of(arrays), was_pairs(arrays)
        self._frame = Frame(parameters + pairs_of(loans) + was, positions + places, values + numbers)
        self._start_frame = Frame(parameters, positions, values)
        self._end_frame = Frame(parameters + was, positions, values)
        self._way_by_array = {words[1]: words[0] for words in arrays + loans}

    def _scope(self):
        arrays = pairs_of(self._passed["arrays"]) + pairs_of(self._passed["loans"])
        frame = Frame(arrays, self._frame.positions, self._frame.amounts)
        loans = tuple([words[1] for words in self._passed["loans"]])
        return Scope(frame, self._way_by_array, loans, self._passed["places"], self._passed["numbers"])

    def _check_claims(self):
        notes = self._passed["notes"]
        if not isinstance(notes, tuple) or len(notes) != len(self._layout.loops):
            raise InvalidFunction("there is not one tuple of notes for each loop")
        if not all([are_claims(self._frame, claims) for claims in notes]):
            raise InvalidFunction("these are not notes")
        if not are_claims(self._start_frame, self._passed["before"]):
            raise InvalidFunction("these are not claims before")
        if not are_claims(self._end_frame, self._passed["after"]):
            raise InvalidFunction("these are not claims after")

    @property
    def called(self):
        """The name of the function."""
        return self._called

    @property
    def arrays(self):
        """The array parameters with their ways, lengths and was names."""
        return self._passed["arrays"]

    @property
    def positions(self):
        """The positions that are parameters."""
        return self._passed["positions"]

    @property
    def amounts(self):
        """The values that are parameters."""
        return self._passed["values"]

    @property
    def loans(self):
        """The loans with their ways and lengths."""
        return self._passed["loans"]

    @property
    def places(self):
        """The local positions."""
        return self._passed["places"]

    @property
    def numbers(self):
        """The local values."""
        return self._passed["numbers"]

    @property
    def rows(self):
        """The rows."""
        return self._passed["rows"]

    @property
    def notes(self):
        """The notes of all loops."""
        return self._passed["notes"]

    @property
    def before(self):
        """The claims that have to be true at the beginning."""
        return self._passed["before"]

    @property
    def after(self):
        """The claims that are true at the end."""
        return self._passed["after"]

    @property
    def frame(self):
        """The frame of all names."""
        return self._frame

    @property
    def start_frame(self):
        """The frame of the parameters alone."""
        return self._start_frame

    @property
    def end_frame(self):
        """The frame of the parameters and was names."""
        return self._end_frame

    @property
    def conditions(self):
        """The conditions of all loops."""
        return self._conditions

    @property
    def callees(self):
        """The ascending names of the functions that it calls."""
        return self._callees

    def row(self, number):
        """The row with a number, with the rows in it."""
        self._check_number(number)
        return self._flat[number]

    def _check_number(self, number):
        if not is_index(number, len(self._flat)):
            raise InvalidNumber(number)

    def loop_of(self, number):
        """The number of the innermost loop in whose rows a row stands, or None."""
        self._check_number(number)
        return self._layout.inside[number]

    def while_of(self, loop):
        """The number of the row of a loop."""
        return self._layout.loops[loop]

    def _check_loop(self, loop):
        if not is_index(loop, len(self._layout.loops)):
            raise InvalidNumber(loop)

    def ways_behind(self, number):
        """What comes behind a row: for a condition first if it is true and then if it is false."""
        return self._layout.ways[number]

    def way_of(self, array):
        """Whether an array name is full or look."""
        if not isinstance(array, str) or array not in self._way_by_array:
            raise UnknownName(array)
        return self._way_by_array[array]

    def _with(self, changes):
        called = self._called
        passed = {**self._passed, **changes}
        return Function(called, **passed)

    def with_rows(self, rows, notes):
        """The function with other rows and notes."""
        return self._with({"rows": rows, "notes": notes})

    def with_notes(self, loop, claims):
        """The function with other notes of one loop."""
        self._check_loop(loop)
        notes = self._passed["notes"]
        return self._with({"notes": (*notes[:loop], claims, *notes[loop + 1:])})

    def with_contract(self, before, after):
        """The function with other claims before and after."""
        return self._with({"before": before, "after": after})

    def called_as(self, called):
        """The function with another name."""
        passed = self._passed
        return Function(called, **passed)

    def relabeled(self, names):
        """The function with other names of parameters, locals, lengths and was names."""
        frame = self._frame.renamed(names)
        passed = self._passed
        words = {**{word: word for word in self._all_words()}, **names}
        changes = {"rows": put_rows(passed["rows"], frame, words)}
        for kind in ("arrays", "loans"):
            changes[kind] = tuple([(told[0], *[words[word] for word in told[1:]]) for told in passed[kind]])
        for kind in ("positions", "values", "places", "numbers"):
            changes[kind] = tuple([words[word] for word in passed[kind]])
        changes["notes"] = tuple([renamed_claims(self._frame, claims, names) for claims in passed["notes"]])
        changes["before"] = renamed_claims(self._start_frame, passed["before"], names)
        changes["after"] = renamed_claims(self._end_frame, passed["after"], names)
        return self._with(changes)

    def _all_words(self):
        frame = self._frame
        arrays = [array for array, length in frame.arrays]
        return [*arrays, *frame.lengths, *frame.positions, *frame.amounts]

    def __iter__(self):
        return iter(self._flat)

    def __len__(self):
        return len(self._flat)

    def __eq__(self, other):
        return isinstance(other, Function) and (self._called, self._passed) == (other._called, other._passed)

    def __str__(self):
        return f"{self._called}: {len(self._flat)} rows, {len(self._layout.loops)} loops"
