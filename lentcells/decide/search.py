"""A search for a tree: the facts on a way, the steps that add them, and going back when the way is closed.

A proof is a tuple (step, number, proofs): a node of a tree with the numbers of facts as they were in the search,
the number of the first fact that it adds, and for each next node a pair of how many facts it adds there and its
proof.
"""

from lentcells.decide.bounds import Bounds
from lentcells.solve.points import said_by
from lentcells.solve.steps import added_by, cases_of, is_not_of, names_made, parts_of

LETTERS = "pqrstuvwxyzabcdefghijklmno"


def words_for(frame):
    """More fresh names than a search can need: a frame has at most 36 names, and a question 16 new positions."""
    words = [*LETTERS, *[one + other for one in LETTERS[:2] for other in LETTERS]]
    return [word for word in words if frame.is_fresh(word)]


def needs_of(step):
    """The numbers of the facts, and the names, on which a step hangs."""
    kind = step[0]
    if kind == "ring":
        return [fact for fact, way in step[1]]
    if kind == "apart":
        return [step[1][0], step[2][0]]
    if kind == "at":
        return [step[1], *[word for word, number in step[2]]]
    return [step[2]] if kind in ("same", "outside") else [step[1]]


def is_of_positions(claim):
    """Whether an atom, or a not of one, compares positions."""
    return (claim[1][0] if claim[0] == "not" else claim[0]) == "pos"


def role_of(fact):
    """What a fact still has to give: cases, terms or new names, or nothing but what is added at once."""
    if cases_of(fact) is not None:
        return "cases"
    if is_not_of(fact, "all"):
        return "new"
    return "at" if fact[0] == "all" else ""


class Turn:
    """A step on the way, and what was shown for those of its next nodes that were looked at."""

    def __init__(self, step, branches, number, marks):
        self.step = step
        self.branches = branches
        self.number = number
        self.marks = marks
        self.proofs = []
        self.grounds = {need: True for need in needs_of(step)}

    def branch(self):
        """The facts that are added for the next node that is looked at."""
        return self.branches[len(self.proofs)]

    def has_branch(self):
        """Whether a next node is left to look at."""
        return len(self.proofs) < len(self.branches)

    def is_needed(self, needed):
        """Whether what was shown for the next node hangs on what the step adds there."""
        if any([name in needed for name in names_made(self.step)]):
            return True
        return any([self.number + more in needed for more in range(len(self.branch()))])

    def take(self, proof, needed):
        """Keep what was shown for the next node."""
        for need in needed:
            if need not in names_made(self.step) and (isinstance(need, str) or need < self.number):
                self.grounds[need] = True
        self.proofs.append((len(self.branch()), proof))

    def whole(self):
        """The proof of the step."""
        return (self.step, self.number, tuple(self.proofs))


class Search:
    """The facts on the way, and the differences that their atoms say.

    Only those facts of the question are looked at that are keys of the dict `chosen`. An eager search does what opens
    no real cases also where nothing asks for it, so that it is done once, ahead of the cases in which it is needed.
    """

    def __init__(self, question, chosen, eager):
        self.eager = eager
        self.base = question.frame
        self.seats = [term for term in question.members if term[0] not in question.fresh]
        self.told = []
        self.made = []
        self.roles = []
        self.spans = Bounds()
        self.worths = Bounds()
        self.turns = []
        self.proof = None
        self.grounds = {}
        self._words = words_for(question.frame)
        self._closing = None
        self._left_out = {fact: True for fact in range(len(question.facts)) if fact not in chosen}
        self._absorb(question.facts)

    def is_closed(self):
        """Whether what is known on the way can't be true."""
        return self._closing is not None

    def _absorb(self, claims):
        # All that needs no cases is added at once: unlike cases it makes the search smaller, never greater.
        self.told.extend(claims)
        while len(self.roles) < len(self.told) and not self.is_closed():
            number = len(self.roles)
            if number in self._left_out:
                self.roles.append("")
            else:
                self._take_in(number, self.told[number])

    def _take_in(self, number, fact):
        self.roles.append(role_of(fact))
        self._say(number, fact)
        for place in range(len(parts_of(fact))):
            self._add(("part", number, place))
        if self.roles[number] == "new":
            many = len(self.made)
            self._add(("new", number, tuple(self._words[many:many + len(fact[1][1])])))

    def _say(self, number, fact):
        said = said_by(fact)
        for way, difference in enumerate(said):
            bounds = self.spans if is_of_positions(fact) else self.worths
            ring = bounds.take(difference, (number, way))
            if ring is not None:
                self._closing = ("ring", tuple(ring))
                return

    def _add(self, step):
        turn = Turn(step, added_by(self.base, self.told, self.made, step), len(self.told), None)
        self.turns.append(turn)
        self.made.extend(names_made(step))
        self.told.extend(turn.branch())

    def can_do(self, step):
        """Whether there is such a step here."""
        return added_by(self.base, self.told, self.made, step) is not None

    def do(self, step):
        """Go one step on."""
        branches = added_by(self.base, self.told, self.made, step)
        if len(branches) == 0:
            self._closing = step
            return
        if step[0] == "cases":
            self.roles[step[1]] = ""
        marks = (len(self.made), self.spans.mark(), self.worths.mark())
        self.turns.append(Turn(step, branches, len(self.told), marks))
        self._absorb(branches[0])

    def go_back(self):
        """Leave the way that is closed for a case that is left; False if there is none, and `proof` is whole."""
        proof = (self._closing, len(self.told), ())
        needed = {need: True for need in needs_of(self._closing)}
        self._closing = None
        while len(self.turns) > 0:
            turn = self.turns.pop()
            if turn.is_needed(needed):
                turn.take(proof, needed)
                if turn.has_branch():
                    self._look_at(turn)
                    return True
                proof, needed = turn.whole(), turn.grounds
            if turn.step[0] == "cases":
                self.roles[turn.step[1]] = "cases"
        self.proof, self.grounds = proof, needed
        return False

    def _look_at(self, turn):
        many, spans, worths = turn.marks
        self.turns.append(turn)
        del self.told[turn.number:]
        del self.roles[turn.number:]
        del self.made[many:]
        self.spans.back_to(spans)
        self.worths.back_to(worths)
        self._absorb(turn.branch())
