"""Claims of a frame, and what can be made of them."""

from lentcells.base.frames import check_frame, is_position_over, is_value_over
from lentcells.errors import InvalidClaim, InvalidOperation, InvalidTerm
from lentcells.logic.forms import MAX_DEPTH, OPS, atoms_in, has_own_unshifted, is_form
from lentcells.logic.putting import first_fresh, opened_all, put_in


def is_claim(frame, value):
    """Whether the value is a claim for the frame."""
    check_frame(frame)
    return is_form(frame, value, MAX_DEPTH)


def check_claim(frame, claim):
    """Raise InvalidClaim if this is no claim for the frame."""
    if not is_claim(frame, claim):
        raise InvalidClaim("this is no claim for the frame")


def made_claim(frame, claim):
    """The claim that was made, if it is one."""
    if not is_claim(frame, claim):
        raise InvalidOperation("the result is no claim")
    return claim


def names_of(frame, claim):
    """The ascending tuple of the names of the frame that stand in the claim."""
    check_claim(frame, claim)
    terms = [term for atom in atoms_in(claim) for term in atom[2:]]
    words = [word for term in terms for word in term if word in frame]
    return tuple(sorted(set(words)))


def is_term_for(frame, word, target, value):
    """Whether the value is a term of the target that can stand for a position or value of the frame."""
    if frame.has_kind(word, ("position",)):
        return is_position_over(target, value, ())
    return frame.has_kind(word, ("value",)) and is_value_over(target, value, ())


def are_terms_for(frame, target, terms):
    """Whether this is a dict from positions and values of the frame to terms of the target."""
    if not isinstance(terms, dict):
        return False
    return all([is_term_for(frame, word, target, term) for word, term in terms.items()])


def are_arrays_for(frame, target, arrays):
    """Whether this is a dict from all arrays of the frame to such of the target, one length to one length."""
    if not isinstance(arrays, dict) or len(arrays) != len(frame.arrays):
        return False
    if not all([old in arrays and target.has_kind(arrays[old], ("array",)) for old, length in frame.arrays]):
        return False
    lengths = set([(length, target.length_of(arrays[old])) for old, length in frame.arrays])
    return len(lengths) == len(frame.lengths)


def replaced(frame, claim, terms):
    """The claim with terms in the place of some positions and values."""
    check_claim(frame, claim)
    if not are_terms_for(frame, frame, terms):
        raise InvalidOperation("this is no dict from positions and values to terms")
    return made_claim(frame, put_in(claim, frame, {}, terms))


def carried(frame, claim, target, arrays, terms):
    """The claim as one for another frame."""
    check_claim(frame, claim)
    check_frame(target)
    if not are_arrays_for(frame, target, arrays):
        raise InvalidOperation("this is no dict from all arrays to arrays")
    if not are_terms_for(frame, target, terms) or len(terms) != len(frame.positions) + len(frame.amounts):
        raise InvalidOperation("this is no dict from all positions and values to terms")
    lengths = {length: (target.length_of(arrays[old]), 0) for old, length in frame.arrays}
    return made_claim(target, put_in(claim, target, arrays, {**terms, **lengths}))


def used_at(frame, claim, terms):
    """What an all says for terms in the place of its own names."""
    check_claim(frame, claim)
    if claim[0] != "all" or not isinstance(terms, tuple) or len(terms) != len(claim[1]):
        raise InvalidOperation("this is no all with as many own names as there are terms")
    if not all([is_position_over(frame, term, ()) for term in terms]):
        raise InvalidOperation("these are not position terms")
    guard, body = opened_all(frame, claim, terms)
    return made_claim(frame, ("or", (("not", guard), body)))


def inside_claim(frame, array, term):
    """The claim that a position term is inside of an array."""
    check_frame(frame)
    length = frame.length_of(array)
    check_position_term(frame, term)
    return ("and", (("pos", "<=", ("", 0), term), ("pos", "<", term, (length, 0))))


def check_position_term(frame, term):
    """Raise InvalidTerm if this is no position term of the frame."""
    if not is_position_over(frame, term, ()):
        raise InvalidTerm("this is no position term")


def check_body_term(frame, term, own):
    """Raise InvalidTerm if this is no value term that can stand in a body with these own names."""
    if not is_value_over(frame, term, own) or not has_own_unshifted(term, own):
        raise InvalidTerm("this is no value term for a body")


def all_between(frame, low, high, op, one, other):
    """The claim that two value terms compare at all positions from one term to another one."""
    check_frame(frame)
    check_position_term(frame, low)
    check_position_term(frame, high)
    if op not in OPS:
        raise InvalidOperation("this does not compare")
    own = first_fresh(frame, ())
    check_body_term(frame, one, (own,))
    check_body_term(frame, other, (own,))
    guard = ("and", (("pos", "<=", low, (own, 0)), ("pos", "<=", (own, 0), high)))
    return ("all", (own,), guard, ("val", op, one, other))


def renamed_claim(frame, claim, names):
    """The claim for the frame with other names."""
    check_claim(frame, claim)
    target = frame.renamed(names)
    arrays = {array: names.get(array, array) for array, length in frame.arrays}
    terms = {word: (names.get(word, word), 0) for word in frame.positions + frame.amounts}
    return made_claim(target, carried(frame, claim, target, arrays, terms))
