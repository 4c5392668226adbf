"""Smaller proofs for questions for which one was found."""

from lentcells.decide.ground import GroundSearch, ground_of
from lentcells.decide.planning import Plan

# A proof with more nodes is made anew, in all manners until one is as small.
SMALL = 1000
# A tree that is returned has at most so many nodes.
MOST_NODES = 5000
# How many steps the search for a proof takes at most, and how many if no proof would be as small as it has to be.
MOST_STEPS = 3000
FAR_STEPS = 100000


def smaller_proof(question, marks, proof):
    """A proof that is at most as great as this one."""
    ground = ground_of(question, marks, proof)
    for looking in (False, True):
        proof = smaller_by(question, ground, looking, proof)
    if proof.size > MOST_NODES:
        return smaller_of(proof, ground_proof(question, ground, Plan(False, False), FAR_STEPS))
    return proof


def smaller_by(question, ground, looking, proof):
    """A proof that is small, or the smallest one of this one and those that are found by plans."""
    for last in (False, True):
        if proof.size <= SMALL:
            return proof
        plan = Plan(looking, last)
        proof = smaller_of(proof, ground_proof(question, ground, plan, MOST_STEPS))
        if not plan.hung_on_last:
            return proof
    return proof


def smaller_of(proof, other):
    """The smaller one of two proofs, where there may be no other one."""
    return proof if other is None or other.size >= proof.size else other


def ground_proof(question, ground, plan, most):
    """The proof that a search by a plan finds by what stands in another one, or None if it takes more steps."""
    search = GroundSearch(question, ground)
    steps = 0
    while search.proof is None:
        if search.is_closed():
            search.go_back()
        else:
            step = plan.next_step(search)
            steps += 1
            if step is None or steps > most:
                return None
            search.do(step)
    return search.proof
