"""Questions decided: by a proof that they follow, or by a situation that breaks them."""

from lentcells.decide.choosing import Choosing, next_step
from lentcells.decide.proofs import size_of, tree_of, uses_in
from lentcells.decide.search import Search
from lentcells.errors import TooMany
from lentcells.solve.questions import check_question
from lentcells.world.situations import loose_situation

MAX_MEMBERS = 16
MAX_FEW = 1000
# So often a tree is made anew with fewer facts, as long as it gets smaller.
ROUNDS = 4


def check_size(question):
    """Raise TooMany if a question is too great to be decided."""
    if len(question.members) > MAX_MEMBERS:
        raise TooMany(MAX_MEMBERS)
    if question.few > MAX_FEW:
        raise TooMany(MAX_FEW)


def situation_of(frame, sketch):
    """The situation that a sketch tells."""
    rows = {}
    for array, length in frame.arrays:
        rows[array] = tuple([sketch.cell(array, spot) for spot in range(sketch.size_of(array))])
    positions = {word: sketch.position((word, 0)) for word in frame.positions}
    return loose_situation(frame, rows, positions, {word: sketch.content((word, 0)) for word in frame.amounts})


def searched(question, chosen, uses):
    """A search with the chosen facts that is over, and the sketch that breaks nothing of them, or None.

    With uses of alls, which are made first, it is an eager one.
    """
    search = Search(question, chosen, len(uses) > 0)
    for step in uses:
        if not search.is_closed() and search.can_do(step):
            search.do(step)
    while search.proof is None:
        if search.is_closed():
            search.go_back()
        else:
            choosing = Choosing(search)
            step = next_step(choosing)
            if step is None:
                return search, choosing.sketch
            search.do(step)
    return search, None


def smallest(question, search):
    """A search with a proof that is as small as it gets where facts that the last proof did not need are left out."""
    # That lengths are not negative is always kept: sketches without it would not be like situations.
    lengths = {fact: True for fact in range(len(question.frame.lengths))}
    for _ in range(ROUNDS):
        uses = uses_in(search.proof, len(question.facts))
        further, sketch = searched(question, {**lengths, **search.grounds}, uses)
        if sketch is not None or size_of(further.proof) >= size_of(search.proof):
            return search
        search = further
    return search


class Decision:
    """What was found of a question: a proof, with the facts on which it hangs, or a situation that breaks it."""

    def __init__(self, question):
        check_question(question)
        check_size(question)
        self._question = question
        self.search, sketch = searched(question, {fact: True for fact in range(len(question.facts))}, ())
        self.broken = None if sketch is None else question.small(situation_of(question.frame, sketch))

    def follows(self):
        """Whether the question follows."""
        return self.broken is None

    def made_tree(self):
        """A tree of the question."""
        return tree_of(self._question, smallest(self._question, self.search).proof)

    def given(self):
        """The ascending indices of the given claims on which the proof hangs."""
        first = len(self._question.frame.lengths)
        return [place for place in range(len(self._question)) if first + place in self.search.grounds]
