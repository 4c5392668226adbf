"""Points and differences: what they are, and what atoms say by them."""

from lentcells.base.frames import is_name
from lentcells.base.integers import is_integer
from lentcells.logic.forms import ATOMS

MAX_DIFFERENCES = 60
DIGITS = "0123456789"


def is_new_position(value):
    """Whether the value is a new position: a star and a number from 1 on, without leading zeros."""
    if not isinstance(value, str) or len(value) < 2 or value[0] != "*" or value[1] == "0":
        return False
    return all([digit in DIGITS for digit in value[1:]])


def is_word_point(value):
    """Whether the value is the empty name, a name or a new position."""
    return value == "" or is_name(value) or is_new_position(value)


def is_point(value):
    """Whether the value is a point: the number 0, a name, a new position or a cell."""
    if not isinstance(value, tuple):
        return is_word_point(value)
    return len(value) == 3 and is_name(value[0]) and is_word_point(value[1]) and is_integer(value[2])


def is_difference(value):
    """Whether the value is a difference of two points."""
    if not isinstance(value, tuple) or len(value) != 3:
        return False
    return is_point(value[0]) and is_point(value[1]) and is_integer(value[2])


def are_differences(value):
    """Whether the value is a tuple of differences, and of no more than there can be."""
    if not isinstance(value, tuple) or len(value) > MAX_DIFFERENCES:
        return False
    return all([is_difference(difference) for difference in value])


def points_of(differences):
    """The empty name and all points that stand in differences, the cells last, otherwise ascending."""
    points = [point for one, other, most in differences for point in (one, other)]
    words = sorted(set([point for point in points if isinstance(point, str)] + [""]))
    return words + sorted(set([point for point in points if isinstance(point, tuple)]))


def is_ring_of(differences):
    """Whether these differences, of which there is one at least, form a ring in this order."""
    for here, there in zip(differences, [*differences[1:], differences[0]]):
        if here[1] != there[0]:
            return False
    return sum([most for one, other, most in differences]) < 0


def point_of(parts):
    """The point of a term without its last number: a word alone stands for itself."""
    return parts[0] if len(parts) == 1 else parts


def difference_between(one, other, less):
    """The difference that one term is at most another one, less so much."""
    return (point_of(one[:-1]), point_of(other[:-1]), other[-1] - one[-1] - less)


def said_by(claim):
    """The differences that an atom, or a not of an atom with <= or <, says; none for other claims."""
    word = claim[0]
    if word in ATOMS:
        return said_by_atom(claim[1], claim[2], claim[3])
    if word != "not" or claim[1][0] not in ATOMS or claim[1][1] == "==":
        return ()
    # What is not at most another one is greater, and what is not less is at least as great.
    return said_by_atom("<" if claim[1][1] == "<=" else "<=", claim[1][3], claim[1][2])


def said_by_atom(op, one, other):
    """The differences that a comparison of two terms says."""
    if op == "==":
        return (difference_between(one, other, 0), difference_between(other, one, 0))
    return (difference_between(one, other, 0 if op == "<=" else 1),)
