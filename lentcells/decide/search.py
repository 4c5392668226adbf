"""A search for a tree: the facts on a way, the steps that add them, and going back when the way is closed.

Each claim that is a fact on some way has a mark; the facts of the question have their numbers as marks. A proof is
made of steps with marks in the place of numbers, so it holds wherever its grounds are.
"""

from lentcells.decide.bounds import Bounds
from lentcells.decide.proofs import Proof, renumbered
from lentcells.decide.shown import Shown
from lentcells.solve.points import said_by
from lentcells.solve.steps import added_by, cases_of, is_not_of, names_made, parts_of

LETTERS = "pqrstuvwxyzabcdefghijklmno"


def all_words_for(frame):
    """More fresh names than a search can need: a frame has at most 36 names, and a question 16 new positions."""
    words = [*LETTERS, *[one + other for one in LETTERS[:2] for other in LETTERS]]
    return [word for word in words if frame.is_fresh(word)]


def is_of_positions(claim):
    """Whether an atom, or a not of one, compares positions."""
    return (claim[1][0] if claim[0] == "not" else claim[0]) == "pos"


def role_of(fact):
    """What a fact still has to give: cases, terms or new names, or nothing but what is added at once."""
    if cases_of(fact) is not None:
        return "cases"
    if is_not_of(fact, "all"):
        return "new"
    return "at" if fact[0] == "all" else ""


class Marks:
    """The marks of claims, and the new names of alls: the same ones on all ways."""

    def __init__(self, question):
        self.claim_at = list(question.facts)
        self._marks = {}
        # A claim can be nested too deep for a key, so its text stands for it.
        for mark, fact in enumerate(self.claim_at):
            self._marks.setdefault(repr(fact), mark)
        self._words = all_words_for(question.frame)
        self._names = {}

    def marks_of(self, branches):
        """The marks of the facts that a step adds for each of its next ones."""
        return tuple([tuple([self.mark_of(fact) for fact in facts]) for facts in branches])

    def mark_of(self, claim):
        """The mark of a claim."""
        key = repr(claim)
        if key not in self._marks:
            self._marks[key] = len(self.claim_at)
            self.claim_at.append(claim)
        return self._marks[key]

    def words_for(self, mark, many):
        """So many new names for the not of an all with this mark."""
        if mark not in self._names:
            first = len([word for words in self._names.values() for word in words])
            self._names[mark] = tuple(self._words[first:first + many])
        return self._names[mark]


class Turn:
    """A step on the way, and what was shown for those of its next nodes that were looked at."""

    def __init__(self, done, step, branches, fresh_marks, back):
        self.done = done
        self.step = step
        self.branches = branches
        self.fresh_marks = fresh_marks
        self.back = back
        # Marks of what is known without the step, which is not needed for their sake.
        self.there = {}
        self.proofs = []

    def branch(self):
        """The facts that are added for the next node that is looked at."""
        return self.branches[len(self.proofs)]

    def branch_marks(self):
        """The marks of these facts."""
        return self.fresh_marks[len(self.proofs)]

    def has_branch(self):
        """Whether a next node is left to look at."""
        return len(self.proofs) < len(self.branches)

    def is_needed(self, proof):
        """Whether what was shown for the next node hangs on what the step adds there."""
        marks = [mark for mark in self.branch_marks() if mark not in self.there]
        return any([need in proof.grounds for need in (*names_made(self.step), *marks)])

    def whole(self):
        """The proof of the step."""
        return Proof(self.step, self.fresh_marks, tuple(self.proofs))


class Search:
    """The facts on the way, and the differences that their atoms say.

    A search that is spreading looks at situations in which few terms are equal.
    """

    def __init__(self, question, marks, spreading):
        self.spreading = spreading
        self.backs = 0
        # The steps of all proofs on the way, also of those that are not whole.
        self.used = {}
        self.base = question.frame
        self.seats = [term for term in question.members if term[0] not in question.fresh]
        self.told = []
        self.made = []
        self.roles = []
        self.spans = Bounds()
        self.worths = Bounds()
        self.turns = []
        self.proof = None
        self._marks_by_number = []
        self.number_by_mark = {}
        self._marks = marks
        self._shown = Shown(question)
        self._closing = None
        self._absorb(question.facts, list(range(len(question.facts))))

    def mark_at(self, number):
        """The mark of a fact."""
        return self._marks_by_number[number]

    def is_closed(self):
        """Whether what is known on the way can't be true."""
        return self._closing is not None

    def _absorb(self, claims, marks):
        # All that needs no cases is added at once: unlike cases it makes the search smaller, never greater.
        self._tell(claims, marks)
        while len(self.roles) < len(self.told) and not self.is_closed():
            number = len(self.roles)
            mark = self._marks_by_number[number]
            if self._is_left_out(number) or mark in self.number_by_mark:
                self.roles.append("")
            else:
                self.number_by_mark[mark] = number
                self._take_in(number, self.told[number])

    def _is_left_out(self, number):
        # A search for a smaller proof leaves facts out.
        return False

    def _keep(self, proof):
        # Proofs that are kept for other ways make a search shorter.
        self._shown.keep(proof)

    def _tell(self, claims, marks):
        self.told.extend(claims)
        self._marks_by_number.extend(marks)
        self._shown.tell(marks)

    def _take_in(self, number, fact):
        self.roles.append(role_of(fact))
        self._say(number, fact)
        for place in range(len(parts_of(fact))):
            self._add(("part", number, place))
        if self.roles[number] == "new":
            self._add(("new", number, self._marks.words_for(self._marks_by_number[number], len(fact[1][1]))))
        if not self.is_closed():
            self._closing = self._shown.closing(self._marks_by_number[number], self.made)

    def _say(self, number, fact):
        for way, difference in enumerate(said_by(fact)):
            bounds = self.spans if is_of_positions(fact) else self.worths
            ring = bounds.take(difference, (number, way))
            if ring is not None:
                self._closing = Proof(renumbered(("ring", tuple(ring)), self._marks_by_number), (), ())
                return

    def _turn_of(self, step, back):
        branches = added_by(self.base, self.told, self.made, step)
        marks = self._marks.marks_of(branches)
        turn = Turn(step, renumbered(step, self._marks_by_number), branches, marks, back)
        turn.there = {mark: True for found in marks for mark in found if self._shown.has(mark)}
        return turn

    def _add(self, step):
        turn = self._turn_of(step, None)
        self.turns.append(turn)
        self.made.extend(names_made(step))
        self._tell(turn.branch(), turn.branch_marks())

    def _here(self):
        # What `_back_to` needs to come back to what is known now.
        return len(self.told), len(self.made), self.spans.mark(), self.worths.mark()

    def _back_to(self, here):
        known, many, spans, worths = here
        gone = self._marks_by_number[known:]
        self._shown.forget(gone)
        for mark in gone:
            if self.number_by_mark.get(mark, -1) >= known:
                self.number_by_mark.pop(mark)
        self._marks_by_number = self._marks_by_number[:known]
        self.told = self.told[:known]
        self.roles = self.roles[:known]
        self.made = self.made[:many]
        self.spans.back_to(spans)
        self.worths.back_to(worths)

    def do(self, step):
        """Go one step on."""
        turn = self._turn_of(step, self._here())
        if not turn.has_branch():
            self._closing = turn.whole()
            return
        if step[0] == "cases":
            self.roles[step[1]] = ""
        self.turns.append(turn)
        self._absorb(turn.branch(), turn.branch_marks())

    def go_back(self):
        """Leave the way that is closed for a case that is left; False if there is none, and `proof` is whole."""
        proof = self._closing
        self._closing = None
        self.backs += 1
        self.used[proof.step] = True
        while len(self.turns) > 0:
            turn = self.turns.pop()
            if turn.is_needed(proof):
                self.used[turn.step] = True
                turn.proofs.append(proof)
                if turn.has_branch():
                    self._look_at(turn)
                    return True
                proof = turn.whole()
                self._keep(proof)
            if turn.done[0] == "cases":
                self.roles[turn.done[1]] = "cases"
        self.proof = proof
        return False

    def _look_at(self, turn):
        self.turns.append(turn)
        self._back_to(turn.back)
        self._absorb(turn.branch(), turn.branch_marks())
