"""Questions decided: by a proof that they follow, or by a situation that breaks them."""

from lentcells.decide.choosing import Choosing, chosen
from lentcells.decide.search import Search
from lentcells.errors import TooMany
from lentcells.solve.questions import check_question
from lentcells.world.situations import loose_situation

MAX_MEMBERS = 16
MAX_FEW = 1000


def check_size(question):
    """Raise TooMany if a question is too great to be decided."""
    if len(question.members) > MAX_MEMBERS:
        raise TooMany(MAX_MEMBERS)
    if question.few > MAX_FEW:
        raise TooMany(MAX_FEW)


def situation_of(frame, sketch):
    """The situation that a sketch tells."""
    rows = {}
    for array, length in frame.arrays:
        rows[array] = tuple([sketch.cell(array, spot) for spot in range(sketch.size_of(array))])
    positions = {word: sketch.position((word, 0)) for word in frame.positions}
    return loose_situation(frame, rows, positions, {word: sketch.content((word, 0)) for word in frame.amounts})


class Decision:
    """What was found of a question: `proof`, with the facts that it needs, or a situation that breaks it."""

    def __init__(self, question):
        check_question(question)
        check_size(question)
        self.question = question
        self.broken = None
        search = Search(question)
        while search.proof is None and self.broken is None:
            self._go_on(search)
        self.proof, self.grounds = search.proof, search.grounds

    def _go_on(self, search):
        if search.is_closed():
            search.go_back()
            return
        choosing = Choosing(search)
        step = chosen(choosing)
        if step is None:
            self.broken = self.question.small(situation_of(self.question.frame, choosing.sketch))
        else:
            search.do(step)

    def given(self):
        """The ascending indices of the given claims on which the proof hangs."""
        first = len(self.question.frame.lengths)
        return [place for place in range(len(self.question)) if first + place in self.grounds]
