"""Terms in the place of names, all at once."""

from lentcells.base.frames import MAX_LETTERS, raised
from lentcells.errors import InvalidOperation
from lentcells.logic.forms import ATOMS


def put_short(term, terms):
    """A term of a name and a number, with the term that stands for its name in the dict `terms`."""
    return raised(terms[term[0]], term[1]) if term[0] in terms else term


def put_term(term, arrays, terms):
    """A term, with other arrays and with terms in the place of names."""
    if len(term) == 2:
        return put_short(term, terms)
    word, shift = put_short(term[1:3], terms)
    return (arrays.get(term[0], term[0]), word, shift, term[3])


def first_fresh(frame, taken):
    """The first of k, kk, .. that is fresh for the frame and not taken."""
    for many in range(1, MAX_LETTERS + 1):
        word = "k" * many
        if frame.is_fresh(word) and word not in taken:
            return word
    raise InvalidOperation("no own name is left")


def own_names_for(frame, own):
    """Own names for the frame: those that are fresh there stay."""
    made = []
    for word in own:
        # An own name that is replaced stays barred, so that the result does not hang on which one goes first.
        made.append(word if frame.is_fresh(word) else first_fresh(frame, [*own, *made]))
    return tuple(made)


def put_in(claim, target, arrays, terms):
    """The claim for the frame `target`, with other arrays and with terms in the place of names."""
    word = claim[0]
    if word in ATOMS:
        return (word, claim[1], put_term(claim[2], arrays, terms), put_term(claim[3], arrays, terms))
    if word == "not":
        return (word, put_in(claim[1], target, arrays, terms))
    if word in ("and", "or"):
        return (word, tuple([put_in(part, target, arrays, terms) for part in claim[1]]))
    own = own_names_for(target, claim[1])
    more = {**terms, **{old: (new, 0) for old, new in zip(claim[1], own)}}
    return (word, own, put_in(claim[2], target, arrays, more), put_in(claim[3], target, arrays, more))


def opened_all(frame, claim, terms):
    """The guard and the body of an all, with these terms in the place of its own names."""
    given = {word: term for word, term in zip(claim[1], terms)}
    return put_in(claim[2], frame, {}, given), put_in(claim[3], frame, {}, given)
