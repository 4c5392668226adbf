"""Questions decided: by a proof that they follow, or by a situation that breaks them."""

from lentcells.decide.choosing import Choosing, next_step
from lentcells.decide.proofs import tree_of, uses_in
from lentcells.decide.search import Search
from lentcells.errors import TooMany
from lentcells.solve.questions import check_question
from lentcells.world.situations import loose_situation

MAX_MEMBERS = 16
MAX_FEW = 1000
# A proof with more nodes is made anew, so often as long as it gets smaller.
SMALL = 400
ROUNDS = 4
# How often more than there are nodes, and how often at most, a search for a smaller proof goes back.
MORE_BACKS = 600
MAX_BACKS = 5000
# How many nodes of the greater proof are looked at for it.
MAX_LOOK = 20000
# How often the first search goes back at most before another one begins.
FIRST_BACKS = 200


def check_size(question):
    """Raise TooMany if a question is too great to be decided."""
    if len(question.members) > MAX_MEMBERS:
        raise TooMany(MAX_MEMBERS)
    if question.few > MAX_FEW:
        raise TooMany(MAX_FEW)


def situation_of(frame, sketch):
    """The situation that a sketch tells."""
    rows = {}
    for array, length in frame.arrays:
        rows[array] = tuple([sketch.cell(array, spot) for spot in range(sketch.size_of(array))])
    positions = {word: sketch.position((word, 0)) for word in frame.positions}
    return loose_situation(frame, rows, positions, {word: sketch.content((word, 0)) for word in frame.amounts})


def run_search(search, uses, most):
    """Go on with a search until it is over or went back so often; the sketch that breaks nothing, or None."""
    for step in uses:
        if not search.is_closed() and search.can_do(step):
            search.do(step)
    while search.proof is None and search.backs < most:
        if search.is_closed():
            search.go_back()
        else:
            choosing = Choosing(search)
            step = next_step(choosing)
            if step is None:
                return choosing.sketch
            search.do(step)
    return None


def proofs_anew(question, proof):
    """The proofs that searches find where facts that a proof does not need are left out, and its uses come first."""
    # That lengths are not negative is always kept: sketches without it would not be like situations.
    chosen = {**{fact: True for fact in range(len(question.frame.lengths))}, **proof.grounds}
    uses = uses_in(proof, len(question.facts), MAX_LOOK)
    found = []
    for keeping, spreading in ((True, True), (False, True), (False, False)):
        search = Search(question, chosen, True, keeping, spreading)
        run_search(search, uses, min([MORE_BACKS + proof.size, MAX_BACKS]))
        if search.proof is not None:
            found.append(search.proof)
    return found


def smaller_proof(question, proof):
    """A proof that is at most as great as this one."""
    for _ in range(ROUNDS):
        if proof.size <= SMALL:
            return proof
        size = proof.size
        for found in proofs_anew(question, proof):
            if found.size < proof.size:
                proof = found
        if proof.size == size:
            return proof
    return proof


def decided(question):
    """A search that is over, and the sketch that breaks nothing, or None."""
    chosen = {fact: True for fact in range(len(question.facts))}
    most = FIRST_BACKS
    # Spreading takes longer for most questions, but is far better for some.
    spreading = False
    while True:
        search = Search(question, chosen, False, True, spreading)
        sketch = run_search(search, (), most)
        if sketch is not None or search.proof is not None:
            return search, sketch
        spreading = not spreading
        most = most * 4


class Decision:
    """What was found of a question: a proof that it follows, or a situation that breaks it."""

    def __init__(self, question):
        check_question(question)
        check_size(question)
        self._question = question
        search, sketch = decided(question)
        self.proof = search.proof
        self.broken = None if sketch is None else question.small(situation_of(question.frame, sketch))

    def follows(self):
        """Whether the question follows."""
        return self.broken is None

    def made_tree(self):
        """A tree of the question."""
        return tree_of(self._question, smaller_proof(self._question, self.proof))

    def given(self):
        """The ascending indices of the given claims on which the proof hangs."""
        first = len(self._question.frame.lengths)
        return [place for place in range(len(self._question)) if first + place in self.proof.grounds]
