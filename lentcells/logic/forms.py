"""The form of claims: which tuples are claims, guards and bodies, and what stands in them."""

from lentcells.base.frames import MAX_OWN, are_names, is_position_over, is_value_over

OPS = ("<=", "<", "==")
ATOMS = ("pos", "val")
MAX_DEPTH = 12


def is_worded(value):
    """Whether the value is a tuple that begins with a word."""
    return isinstance(value, tuple) and len(value) > 0 and isinstance(value[0], str)


def is_atom(frame, value, own):
    """Whether a tuple that begins with the word of an atom is one, where own names count as positions."""
    if len(value) != 4 or value[1] not in OPS:
        return False
    if value[0] == "pos":
        return all([is_position_over(frame, term, own) for term in value[2:]])
    return all([is_value_over(frame, term, own) for term in value[2:]])


def has_parts(value):
    """Whether behind the first word there is one tuple, and nothing else."""
    return len(value) == 2 and isinstance(value[1], tuple)


def is_form(frame, value, depth):
    """Whether the value is a claim of at most this depth."""
    if depth == 0 or not is_worded(value):
        return False
    word = value[0]
    if word in ATOMS:
        return is_atom(frame, value, ())
    if word == "not":
        return len(value) == 2 and is_form(frame, value[1], depth - 1)
    if word in ("and", "or"):
        return has_parts(value) and all([is_form(frame, part, depth - 1) for part in value[1]])
    return word == "all" and is_all_form(frame, value, depth)


def is_all_form(frame, value, depth):
    """Whether a tuple that begins with all is a claim of at most this depth."""
    if len(value) != 4 or not are_names(value[1], MAX_OWN):
        return False
    own = value[1]
    if len(own) == 0 or len(set(own)) < len(own) or not all([frame.is_fresh(word) for word in own]):
        return False
    return is_guard(frame, value[2], own, depth - 1) and is_body(frame, value[3], own, depth - 1)


def is_guard(frame, value, own, depth):
    """Whether the value is a guard of at most this depth."""
    if depth == 0 or not is_worded(value):
        return False
    if value[0] == "pos":
        return is_atom(frame, value, own) and is_guard_atom(value, own)
    if value[0] not in ("and", "or") or not has_parts(value):
        return False
    return all([is_guard(frame, part, own, depth - 1) for part in value[1]])


def is_guard_atom(atom, own):
    """Whether a position atom can stand in a guard: it has own names, with the number 0, and is not strict."""
    numbers = [number for word, number in atom[2:] if word in own]
    return atom[1] != "<" and len(numbers) > 0 and all([number == 0 for number in numbers])


def is_body(frame, value, own, depth):
    """Whether the value is a body of at most this depth."""
    if depth == 0 or not is_worded(value):
        return False
    word = value[0]
    if word == "val":
        return is_atom(frame, value, own) and all([has_own_unshifted(term, own) for term in value[2:]])
    if word == "not":
        return len(value) == 2 and is_body(frame, value[1], own, depth - 1)
    if word not in ("and", "or") or not has_parts(value):
        return False
    return all([is_body(frame, part, own, depth - 1) for part in value[1]])


def has_own_unshifted(term, own):
    """Whether a value term is no cell next to an own name."""
    return len(term) == 2 or term[1] not in own or term[2] == 0


def atoms_in(claim):
    """All atoms of a claim, in the order of its text."""
    word = claim[0]
    if word in ATOMS:
        return [claim]
    if word == "not":
        return atoms_in(claim[1])
    if word == "all":
        return atoms_in(claim[2]) + atoms_in(claim[3])
    return [atom for part in claim[1] for atom in atoms_in(part)]


def alls_in(claim, positive):
    """The pairs (all, whether it is positive) of a claim that stands under an even number of nots if `positive`."""
    word = claim[0]
    if word in ATOMS:
        return []
    if word == "not":
        return alls_in(claim[1], not positive)
    if word == "all":
        return [(claim, positive)]
    return [pair for part in claim[1] for pair in alls_in(part, positive)]


def position_terms_in(claim):
    """The position terms of a claim, those of cells, too."""
    terms = []
    for atom in atoms_in(claim):
        for term in atom[2:]:
            if atom[0] == "pos":
                terms.append(term)
            elif len(term) == 4:
                terms.append(term[1:3])
    return terms


def cells_in(claim):
    """The triples (array, name, shift) of the cells that a claim reads, in the order of its text."""
    return [term[:3] for atom in atoms_in(claim) for term in atom[2:] if len(term) == 4]


def cell_places_in(claim):
    """The position terms at which cells of a claim are read."""
    return [cell[1:] for cell in cells_in(claim)]


def guard_terms(claim):
    """The terms without own names in the guard of an all."""
    return [term for term in position_terms_in(claim[2]) if term[0] not in claim[1]]
