"""Questions decided: by a proof that they follow, or by a situation that breaks them."""

from lentcells.decide.choosing import Choosing, next_step
from lentcells.decide.ground import Ground
from lentcells.decide.planning import Plan
from lentcells.decide.proofs import tree_of
from lentcells.decide.search import Marks, Search
from lentcells.decide.smaller import ground_proof, smaller_proof
from lentcells.errors import TooMany
from lentcells.solve.questions import check_question
from lentcells.world.situations import loose_situation

MAX_MEMBERS = 16
MAX_FEW = 1000
# How often the first search goes back at most before another one begins.
FIRST_BACKS = 200
# A search by a plan takes so many times fewer steps.
PER_STEP = 5


def check_size(question):
    """Raise TooMany if a question is too great to be decided."""
    if len(question.members) > MAX_MEMBERS:
        raise TooMany(MAX_MEMBERS)
    if question.few > MAX_FEW:
        raise TooMany(MAX_FEW)


def situation_of(frame, sketch):
    """The situation that a sketch tells."""
    rows = {}
    for array, length in frame.arrays:
        rows[array] = tuple([sketch.cell(array, spot) for spot in range(sketch.size_of(array))])
    positions = {word: sketch.position((word, 0)) for word in frame.positions}
    return loose_situation(frame, rows, positions, {word: sketch.content((word, 0)) for word in frame.amounts})


def run_search(search, most):
    """Go on with a search until it is over or went back so often; the sketch that breaks nothing, or None."""
    while search.proof is None and search.backs < most:
        if search.is_closed():
            search.go_back()
        else:
            choosing = Choosing(search)
            step = next_step(choosing)
            if step is None:
                return choosing.sketch
            search.do(step)
    return None


def decided(question, marks):
    """A proof of the question, or None, and the sketch that breaks nothing, or None."""
    most = FIRST_BACKS
    # Spreading takes longer for most questions, but is far better for some.
    spreading = False
    used = {}
    while True:
        search = Search(question, marks, spreading)
        sketch = run_search(search, most)
        if sketch is not None or search.proof is not None:
            return search.proof, sketch
        used = {**used, **search.used}
        # A plan takes longer for each step, but opens far fewer cases where there are many to choose from.
        proof = ground_proof(question, Ground(question, marks, used, {}), Plan(True, False), most // PER_STEP)
        if proof is not None:
            return proof, None
        spreading = not spreading
        most = most * 4


class Decision:
    """What was found of a question: a proof that it follows, or a situation that breaks it."""

    def __init__(self, question):
        check_question(question)
        check_size(question)
        self._question = question
        self._marks = Marks(question)
        self.proof, sketch = decided(question, self._marks)
        self.broken = None if sketch is None else question.small(situation_of(question.frame, sketch))

    def follows(self):
        """Whether the question follows."""
        return self.broken is None

    def made_tree(self):
        """A tree of the question."""
        return tree_of(self._question, smaller_proof(self._question, self._marks, self.proof))

    def given(self):
        """The ascending indices of the given claims on which the proof hangs."""
        first = len(self._question.frame.lengths)
        return [place for place in range(len(self._question)) if first + place in self.proof.grounds]
