"""Integers as they are passed: neither True nor False, and of at most sixty digits."""

from lentcells.errors import InvalidNumber, NothingToUndo

LIMIT = 10 ** 60


def is_whole(value):
    """Whether the value is an integer of any length."""
    return isinstance(value, int) and not isinstance(value, bool)


def is_integer(value):
    """Whether the value is an integer of at most sixty digits."""
    return is_whole(value) and -LIMIT < value < LIMIT


def is_index(value, many):
    """Whether the value is an index of so many."""
    return is_whole(value) and 0 <= value < many


def check_undo(many, done):
    """Raise an error if `many` of `done` steps can't be taken back."""
    if not is_integer(many) or many < 0:
        raise InvalidNumber(many)
    if many > done:
        raise NothingToUndo(many)
