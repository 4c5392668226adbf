"""The forms that texts have: tuples that are claims and rows by their form alone, whatever their names stand for."""

from lentcells.base.frames import MAX_OWN, are_names, is_name
from lentcells.base.integers import is_integer
from lentcells.code.rows import SIZES
from lentcells.logic.forms import ATOMS, MAX_DEPTH, OPS, has_parts, is_worded

MAX_INSIDE = 4


def is_short_term(value):
    """Whether the value is a pair of a name, or none, and a number."""
    if not isinstance(value, tuple) or len(value) != 2 or not is_integer(value[1]):
        return False
    return isinstance(value[0], str) and (value[0] == "" or is_name(value[0]))


def is_cell_term(value):
    """Whether the value has the form of a cell with a number more."""
    if not isinstance(value, tuple) or len(value) != 4 or not is_name(value[0]):
        return False
    return is_short_term(value[1:3]) and is_integer(value[3])


def is_amount_term(value):
    """Whether the value has the form of a value term."""
    return is_short_term(value) or is_cell_term(value)


def is_atom_form(value):
    """Whether a tuple that begins with the word of an atom has the form of one."""
    if len(value) != 4 or not isinstance(value[1], str) or value[1] not in OPS:
        return False
    if value[0] == "pos":
        return is_short_term(value[2]) and is_short_term(value[3])
    return is_amount_term(value[2]) and is_amount_term(value[3])


def is_claim_form(value, depth=MAX_DEPTH, alls=True):
    """Whether the value has the form of a claim of at most this depth, where alls can be barred."""
    if depth == 0 or not is_worded(value):
        return False
    word = value[0]
    if word in ATOMS:
        return is_atom_form(value)
    if word == "not":
        return len(value) == 2 and is_claim_form(value[1], depth - 1, alls)
    if word in ("and", "or"):
        return has_parts(value) and all([is_claim_form(part, depth - 1, alls) for part in value[1]])
    if word != "all" or not alls or len(value) != 4 or not are_names(value[1], MAX_OWN) or len(value[1]) == 0:
        return False
    return is_claim_form(value[2], depth - 1, False) and is_claim_form(value[3], depth - 1, False)


def are_all(value, is_one):
    """Whether the value is a tuple of such members."""
    return isinstance(value, tuple) and all([is_one(part) for part in value])


def is_plain_row_form(value):
    """Whether a tuple with the word and the size of a row without rows in it has the form of one."""
    word = value[0]
    if not is_name(value[1]):
        return False
    if word == "call":
        if not are_all(value[2], is_name) or not are_all(value[3], is_short_term):
            return False
        return are_all(value[4], is_amount_term)
    if word == "write":
        return is_cell_term((*value[1:4], 0)) and is_amount_term(value[4])
    if word == "lend":
        return is_name(value[2])
    return is_short_term(value[2]) if word == "move" else is_amount_term(value[2])


def are_rows_form(value, inside=0):
    """Whether the value has the form of rows that stand so deep in others."""
    if not isinstance(value, tuple) or (len(value) > 0 and inside > MAX_INSIDE):
        return False
    return all([is_row_form(row, inside) for row in value])


def is_row_form(value, inside):
    """Whether the value has the form of a row that stands so deep in others."""
    if not is_worded(value) or value[0] not in SIZES or len(value) != SIZES[value[0]]:
        return False
    if value[0] not in ("if", "while"):
        return is_plain_row_form(value)
    return is_claim_form(value[1]) and all([are_rows_form(rows, inside + 1) for rows in value[2:]])
