"""A search for a small tree by what stands in a proof: it uses alls at no other terms, and looks at no other cells."""

from lentcells.base.frames import is_position_over
from lentcells.decide.reach import Reach
from lentcells.decide.search import Search, is_of_positions
from lentcells.logic.forms import cells_in
from lentcells.logic.putting import opened_all
from lentcells.solve.points import said_by


def proofs_in(proof):
    """All different proofs that stand in a proof, itself included."""
    seen = {proof: True}
    waiting = [proof]
    while len(waiting) > 0:
        for further in waiting.pop().proofs:
            if further not in seen:
                seen[further] = True
                waiting.append(further)
    return list(seen)


def ground_of(question, marks, proof):
    """The ground of a whole proof."""
    # What the proof does not need is left out, but for the facts that lengths are not negative.
    first, end = len(question.frame.lengths), len(question.facts)
    left_out = {fact: True for fact in range(first, end) if fact not in proof.grounds}
    return Ground(question, marks, {here.step: True for here in proofs_in(proof)}, left_out)


class Ground:
    """The steps that a search for a small tree can take, by those of proofs: uses of alls, terms to hold apart."""

    def __init__(self, question, marks, steps, left_out):
        self._frame = question.frame
        self.marks = marks
        self.left_out = left_out
        self.use_steps = sorted([step for step in steps if step[0] == "at"])
        self.apart_steps = sorted([step for step in steps if step[0] == "apart"])
        rings = [fact for step in steps if step[0] == "ring" for fact, way in step[1]]
        self.read_cells = sorted(set([cell for fact in rings for cell in cells_in(marks.claim_at[fact])]))
        self.results = [marks.mark_of(self._result(step)) for step in self.use_steps]

    def _result(self, step):
        guard, body = opened_all(self._frame, self.marks.claim_at[step[1]], step[2])
        return ("or", (("not", guard), body))


class GroundSearch(Search):
    """A search that keeps the tightest bounds of what is known."""

    def __init__(self, question, ground):
        self.ground = ground
        self.near = Reach()
        self.rich = Reach()
        super().__init__(question, ground.marks, False)

    def _say(self, number, fact):
        super()._say(number, fact)
        reach = self.near if is_of_positions(fact) else self.rich
        reach.take_all(said_by(fact))

    def _here(self):
        return super()._here(), self.near.copied(), self.rich.copied()

    def _back_to(self, here):
        super()._back_to(here[0])
        self.near = here[1].copied()
        self.rich = here[2].copied()

    def _is_left_out(self, number):
        return number in self.ground.left_out

    def _keep(self, proof):
        # A proof for another way can be greater than one that is made for this one.
        return

    def number_of(self, claim):
        """The number of a fact, or None if the claim is none."""
        return self.number_by_mark.get(self.ground.marks.mark_of(claim))

    def has_terms(self, terms):
        """Whether all names in position terms are there."""
        return all([is_position_over(self.base, term, self.made) for term in terms])

    def next_use(self):
        """A use of an all that is still to be done, or None."""
        for step, result in zip(self.ground.use_steps, self.ground.results):
            if result not in self.number_by_mark and step[1] in self.number_by_mark and self.has_terms(step[2]):
                return ("at", self.number_by_mark[step[1]], step[2])
        return None
