"""What follows: whether questions do, what shows it, and askers that answer by what they were told."""

from lentcells.base.frames import check_frame
from lentcells.base.integers import check_undo
from lentcells.decide.deciding import Decision
from lentcells.errors import InvalidOperation, Refused
from lentcells.logic.claims import check_claim, is_claim
from lentcells.solve.questions import MAX_GIVEN, Question, check_question
from lentcells.solve.trees import is_tree

NEVER = ("or", ())


def follows(question):
    """Whether the question follows."""
    return Decision(question).follows()


def breaking(question):
    """Any small situation that breaks the question, or None if it follows."""
    return Decision(question).broken


def paper(question):
    """Any paper that shows whether the question follows."""
    decision = Decision(question)
    if not decision.follows():
        return ("broken", decision.broken)
    return ("follows", decision.made_tree())


def is_paper(question, value):
    """Whether the value is a paper that shows whether the question follows."""
    check_question(question)
    if not isinstance(value, tuple) or len(value) != 2:
        return False
    if value[0] == "broken":
        return question.is_broken_by(value[1])
    return value[0] == "follows" and is_tree(question, value[1])


def core(question):
    """The indices of given claims that remain if each is taken away, one after the other, that is not needed."""
    decision = Decision(question)
    if not decision.follows():
        raise InvalidOperation("the question does not follow")
    kept = list(range(len(question)))
    needed = decision.given()
    for place in range(len(question)):
        fewer = question.without_given(kept.index(place))
        if place in needed:
            decision = Decision(fewer)
            if not decision.follows():
                continue
            # What this proof does not need can go without a further look.
            rest = [number for number in kept if number != place]
            needed = [rest[number] for number in decision.given()]
        kept.remove(place)
        question = fewer
    return tuple(kept)


class Asker:
    """Claims that are known, and answers by them."""

    def __init__(self, frame):
        check_frame(frame)
        self._frame = frame
        self._known = ()

    def tell(self, claim):
        """Let the claim be known from now on."""
        check_claim(self._frame, claim)
        if len(self._known) >= MAX_GIVEN - 1:
            raise InvalidOperation("no more claims can be known")
        decision = Decision(self._against(claim))
        if decision.follows():
            raise Refused(decision.made_tree())
        self._known = (*self._known, claim)
        return True

    def _against(self, claim):
        # This is the question of the `not` of the claim, too, which can be too deep for a claim.
        return Question(self._frame, (*self._known, claim), NEVER)

    def _about(self, claim):
        return Question(self._frame, self._known, claim)

    def ask(self, claim):
        """Whether the claim follows from what is known, or its not does, or neither."""
        check_claim(self._frame, claim)
        if follows(self._about(claim)):
            return "yes"
        return "no" if follows(self._against(claim)) else "open"

    def why(self, claim):
        """Any paper that shows whether the claim follows from what is known."""
        check_claim(self._frame, claim)
        return paper(self._about(claim))

    @property
    def known(self):
        """The claims that are known."""
        return self._known

    def undo(self, *, many=1):
        """Make the last claims unknown, and return them, the last one first."""
        check_undo(many, len(self._known))
        left = len(self._known) - many
        gone = self._known[left:]
        self._known = self._known[:left]
        return gone[::-1]

    def twin(self):
        """An equal one that goes on by itself."""
        made = Asker(self._frame)
        made._known = self._known
        return made

    def __contains__(self, value):
        return is_claim(self._frame, value) and value in self._known

    def __len__(self):
        return len(self._known)

    def __eq__(self, other):
        return isinstance(other, Asker) and (self._frame, self._known) == (other._frame, other._known)

    def __str__(self):
        return f"asker with {len(self)} claims"
