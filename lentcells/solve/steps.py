"""The steps of a tree: what each kind of node adds to the facts on the way to its next ones.

A step is a node without what names its next ones. `facts` are those known at the node, and `made` the new names
on the way to it. Each function with the name of a kind returns a tuple with the tuple of the facts that are added
for each next one, or None if the step is none there.
"""

from lentcells.base.frames import is_position_over
from lentcells.base.integers import is_index
from lentcells.logic.forms import ATOMS
from lentcells.logic.putting import opened_all
from lentcells.solve.points import is_ring_of, said_by


def fact_at(facts, number):
    """The fact with this number, or None."""
    return facts[number] if is_index(number, len(facts)) else None


def is_not_of(claim, word):
    """Whether the claim is a not of a claim that begins with this word."""
    return claim[0] == "not" and claim[1][0] == word


def nots_of(claims):
    """The nots of claims."""
    return tuple([("not", claim) for claim in claims])


def parts_of(claim):
    """What is true besides if the claim is: the parts of an and, and the like."""
    if claim[0] == "and":
        return claim[1]
    if is_not_of(claim, "or"):
        return nots_of(claim[1][1])
    return (claim[1][1],) if is_not_of(claim, "not") else ()


def cases_of(claim):
    """Of what at least one is true if the claim is: the parts of an or, and the like; None for other claims."""
    if claim[0] == "or":
        return claim[1]
    if is_not_of(claim, "and"):
        return nots_of(claim[1][1])
    if claim[0] == "not" and claim[1][0] in ATOMS and claim[1][1] == "==":
        word, op, one, other = claim[1]
        return ((word, "<", one, other), (word, "<", other, one))
    return None


def part_step(frame, facts, made, step):
    """A part of an and, or the like."""
    fact = fact_at(facts, step[1])
    if fact is None:
        return None
    part = fact_at(parts_of(fact), step[2])
    return None if part is None else ((part,),)


def cases_step(frame, facts, made, step):
    """A case for each part of an or, or the like."""
    fact = fact_at(facts, step[1])
    cases = None if fact is None else cases_of(fact)
    return None if cases is None else tuple([(case,) for case in cases])


def are_new_names(frame, made, value):
    """Whether the value is a tuple of different names that are fresh for the frame and not made yet."""
    if not isinstance(value, tuple) or not all([frame.is_fresh(word) and word not in made for word in value]):
        return False
    return len(set(value)) == len(value)


def new_step(frame, facts, made, step):
    """New names for positions at which an all is false."""
    fact, names = fact_at(facts, step[1]), step[2]
    if fact is None or not is_not_of(fact, "all") or not are_new_names(frame, made, names):
        return None
    if len(names) != len(fact[1][1]):
        return None
    guard, body = opened_all(frame, fact[1], [(word, 0) for word in names])
    return ((guard, ("not", body)),)


def at_step(frame, facts, made, step):
    """What an all says for terms in the place of its own names."""
    fact, terms = fact_at(facts, step[1]), step[2]
    if fact is None or fact[0] != "all" or not isinstance(terms, tuple) or len(terms) != len(fact[1]):
        return None
    if not all([is_position_over(frame, term, made) for term in terms]):
        return None
    guard, body = opened_all(frame, fact, terms)
    return ((("or", (("not", guard), body)),),)


def apart_step(frame, facts, made, step):
    """How two position terms compare: one of three cases."""
    one, other = step[1], step[2]
    if not is_position_over(frame, one, made) or not is_position_over(frame, other, made):
        return None
    return ((("pos", "<", one, other),), (("pos", "<", other, one),), (("pos", "==", one, other),))


def same_step(frame, facts, made, step):
    """Equal cells at equal positions."""
    array, fact = step[1], fact_at(facts, step[2])
    if not frame.has_kind(array, ("array",)) or fact is None or fact[:2] != ("pos", "=="):
        return None
    return ((("val", "==", (array, *fact[2], 0), (array, *fact[3], 0)),),)


def outer_term(frame, array, fact):
    """The term of which a fact says that it is outside of the array, or None."""
    if fact[:2] != ("pos", "<"):
        return None
    if fact[3] == ("", 0):
        return fact[2]
    return fact[3] if fact[2] == (frame.length_of(array), -1) else None


def outside_step(frame, facts, made, step):
    """Cells outside of an array, which read 0."""
    array, fact = step[1], fact_at(facts, step[2])
    if not frame.has_kind(array, ("array",)) or fact is None:
        return None
    term = outer_term(frame, array, fact)
    return None if term is None else ((("val", "==", (array, *term, 0), ("", 0)),),)


def said_at(facts, pair):
    """The kind of atom, and the difference, of a pair (fact, way) of a ring, or None."""
    if not isinstance(pair, tuple) or len(pair) != 2:
        return None
    fact = fact_at(facts, pair[0])
    if fact is None:
        return None
    difference = fact_at(said_by(fact), pair[1])
    kind = fact[1][0] if fact[0] == "not" else fact[0]
    return None if difference is None else (kind, difference)


def ring_step(frame, facts, made, step):
    """Differences that can't all be true, so the way ends here."""
    if not isinstance(step[1], tuple):
        return None
    said = [said_at(facts, pair) for pair in step[1]]
    if not all([pair is not None for pair in said]) or len(set([kind for kind, difference in said])) != 1:
        return None
    return () if is_ring_of([difference for kind, difference in said]) else None


# How many items a node of each kind has.
SIZES = {"part": 4, "cases": 3, "new": 4, "at": 4, "apart": 4, "same": 4, "outside": 4, "ring": 2}
# The kinds of nodes that name their next ones in a tuple.
FORKS = ("cases", "apart")
STEPS = {
    "part": part_step,
    "cases": cases_step,
    "new": new_step,
    "at": at_step,
    "apart": apart_step,
    "same": same_step,
    "outside": outside_step,
    "ring": ring_step,
}


def added_by(frame, facts, made, step):
    """What a step adds for each of its next ones, or None if it is none there."""
    rule = STEPS[step[0]]
    return rule(frame, facts, made, step)


def names_made(step):
    """The new names that a step makes."""
    return step[2] if step[0] == "new" else ()


def node_of(step, nexts):
    """The node of a step and the numbers of its next ones."""
    return (*step, nexts) if step[0] in FORKS else (*step, *nexts)


def split_node(value):
    """The step and the tuple of the next ones of what has the form of a node, or None."""
    if not isinstance(value, tuple) or len(value) == 0 or not isinstance(value[0], str):
        return None
    if value[0] not in SIZES or len(value) != SIZES[value[0]]:
        return None
    if value[0] == "ring":
        return value, ()
    if value[0] not in FORKS:
        return value[:-1], value[-1:]
    return (value[:-1], value[-1]) if isinstance(value[-1], tuple) else None
