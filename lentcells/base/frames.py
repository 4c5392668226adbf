"""Names, frames, and the terms of a frame."""

from lentcells.base.integers import is_integer
from lentcells.errors import InvalidFrame, InvalidNumber, InvalidOperation, InvalidTerm, UnknownName

LETTERS = "abcdefghijklmnopqrstuvwxyz"
MAX_LETTERS = 8
MAX_ARRAYS = 12
MAX_POSITIONS = 6
MAX_VALUES = 6
MAX_OWN = 2


def is_name(value):
    """Whether the value is a name: one to eight letters from a to z."""
    if not isinstance(value, str) or not 1 <= len(value) <= MAX_LETTERS:
        return False
    return all([letter in LETTERS for letter in value])


def check_frame(frame):
    """Raise InvalidFrame if this is no frame."""
    if not isinstance(frame, Frame):
        raise InvalidFrame("this is no frame")


def are_names(value, most):
    """Whether the value is a tuple of at most so many names."""
    return isinstance(value, tuple) and len(value) <= most and all([is_name(word) for word in value])


def are_arrays(value):
    """Whether the value is a tuple of pairs of names, no more than a frame can have."""
    if not isinstance(value, tuple) or len(value) > MAX_ARRAYS:
        return False
    return all([are_names(pair, 2) and len(pair) == 2 for pair in value])


def lengths_in(arrays):
    """The different lengths of arrays, in the order in which they stand first."""
    return tuple({length: True for array, length in arrays})


def words_in(arrays, positions, values):
    """All names of a frame; a length that arrays share is one name."""
    return (*[array for array, length in arrays], *lengths_in(arrays), *positions, *values)


def is_frame_of(arrays, positions, values):
    """Whether these make a frame."""
    if not are_arrays(arrays) or not are_names(positions, MAX_POSITIONS) or not are_names(values, MAX_VALUES):
        return False
    words = words_in(arrays, positions, values)
    return len(set(words)) == len(words)


def is_position_over(frame, value, extra):
    """Whether the value is a position term of the frame, where the names of `extra` count as positions."""
    if not isinstance(value, tuple) or len(value) != 2:
        return False
    word, number = value
    if not isinstance(word, str) or not is_integer(number):
        return False
    return word == "" or word in extra or frame.has_kind(word, ("position", "length"))


def is_value_over(frame, value, extra):
    """Whether the value is a value term of the frame, where the names of `extra` count as positions."""
    if not isinstance(value, tuple) or len(value) not in (2, 4) or not is_integer(value[-1]):
        return False
    word = value[0]
    if len(value) == 2:
        return isinstance(word, str) and (word == "" or frame.has_kind(word, ("value",)))
    return frame.has_kind(word, ("array",)) and is_position_over(frame, value[1:3], extra)


def check_own(frame, own):
    """Raise InvalidTerm if these can't be own names in the frame."""
    if not are_names(own, MAX_OWN) or len(set(own)) < len(own) or not all([frame.is_fresh(word) for word in own]):
        raise InvalidTerm("these are not at most two different fresh names")


def raised(term, more):
    """The term with so much more in its last number."""
    return (*term[:-1], term[-1] + more)


def words_text(words):
    """The words with blanks between them, or a dash for none."""
    return " ".join(words) if len(words) > 0 else "-"


def arrays_text(arrays):
    """The text of arrays with their lengths."""
    return words_text([f"{array}:{length}" for array, length in arrays])


class Frame:
    """Up to twelve arrays with their lengths, up to six positions and up to six values."""

    def __init__(self, arrays, positions, values):
        if not is_frame_of(arrays, positions, values):
            raise InvalidFrame("these are not arrays, positions and values of a frame")
        self._arrays = arrays
        self._positions = positions
        self._amounts = values
        self._lengths = lengths_in(arrays)
        self._length_of = {array: length for array, length in arrays}
        self._kinds = {
            **{word: "array" for word in self._length_of},
            **{word: "length" for word in self._lengths},
            **{word: "position" for word in positions},
            **{word: "value" for word in values},
        }

    @property
    def arrays(self):
        """The pairs (array, length)."""
        return self._arrays

    @property
    def positions(self):
        """The names of the positions."""
        return self._positions

    @property
    def amounts(self):
        """The names of the values."""
        return self._amounts

    @property
    def lengths(self):
        """The different lengths, in the order in which they stand first."""
        return self._lengths

    def has_kind(self, value, kinds):
        """Whether the value is a name of the frame, of one of these kinds."""
        return isinstance(value, str) and self._kinds.get(value) in kinds

    def length_of(self, array):
        """The name of the length of an array."""
        if not self.has_kind(array, ("array",)):
            raise UnknownName(array)
        return self._length_of[array]

    def kind_of(self, word):
        """What the name stands for."""
        if word not in self:
            raise UnknownName(word)
        return self._kinds[word]

    def is_fresh(self, value):
        """Whether the value is a name, but none of the frame."""
        return is_name(value) and value not in self

    def is_position_term(self, value, *, own=()):
        """Whether the value is a position term, where the names of `own` count as positions."""
        check_own(self, own)
        return is_position_over(self, value, own)

    def is_value_term(self, value, *, own=()):
        """Whether the value is a value term, where the names of `own` count as positions."""
        check_own(self, own)
        return is_value_over(self, value, own)

    def shifted(self, term, shift):
        """The term with so much more."""
        if not self._is_term(term):
            raise InvalidTerm("this is no term")
        if not is_integer(shift):
            raise InvalidNumber(shift)
        made = raised(term, shift)
        if not self._is_term(made):
            raise InvalidTerm("the number of the term would be too long")
        return made

    def _is_term(self, value):
        return is_position_over(self, value, ()) or is_value_over(self, value, ())

    def with_names(self, *, arrays=(), positions=(), values=()):
        """The frame with more names, behind the others."""
        if not isinstance(arrays, tuple) or not isinstance(positions, tuple) or not isinstance(values, tuple):
            raise InvalidFrame("more names of a frame stand in tuples")
        return Frame(self._arrays + arrays, self._positions + positions, self._amounts + values)

    def renamed(self, names):
        """The frame with other names, by a dict from some of its names."""
        if not isinstance(names, dict) or not all([old in self and is_name(new) for old, new in names.items()]):
            raise InvalidOperation("this is no dict from names of the frame to names")
        if len(set([names.get(word, word) for word in self._kinds])) < len(self):
            raise InvalidOperation("two names of the frame would be equal")
        arrays = tuple([(names.get(array, array), names.get(length, length)) for array, length in self._arrays])
        positions = tuple([names.get(word, word) for word in self._positions])
        return Frame(arrays, positions, tuple([names.get(word, word) for word in self._amounts]))

    def __contains__(self, value):
        return isinstance(value, str) and value in self._kinds

    def __len__(self):
        return len(self._kinds)

    def __eq__(self, other):
        if not isinstance(other, Frame):
            return False
        return (self._arrays, self._positions, self._amounts) == (other._arrays, other._positions, other._amounts)

    def __str__(self):
        return f"{arrays_text(self._arrays)} | {words_text(self._positions)} | {words_text(self._amounts)}"
