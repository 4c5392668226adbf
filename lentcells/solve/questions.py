"""Questions: whether a wanted claim is true wherever the given ones are."""

from lentcells.base.frames import check_frame
from lentcells.base.integers import is_index
from lentcells.errors import InvalidNumber, InvalidOperation, InvalidQuestion, InvalidSituation
from lentcells.logic.claims import check_claim, is_claim
from lentcells.logic.forms import alls_in, cell_places_in, guard_terms, position_terms_in
from lentcells.solve.laying import drawn_together, laid_anew, numbers_in
from lentcells.world.situations import Situation

MAX_GIVEN = 40


def is_question_of(frame, given, wanted):
    """Whether these make a question."""
    if not isinstance(given, tuple) or len(given) > MAX_GIVEN:
        return False
    return all([is_claim(frame, claim) for claim in given]) and is_claim(frame, wanted)


def signed_alls(given, wanted):
    """The pairs (all, whether it is positive) of a question, in their order."""
    pairs = [pair for claim in given for pair in alls_in(claim, True)]
    return pairs + alls_in(wanted, False)


def members_of(frame, claims, positive, fresh):
    """The members of a question, ascending."""
    members = [("", -1), ("", 0)] + [(length, 0) for length in frame.lengths] + [(word, 0) for word in fresh]
    for claim in claims:
        # Cells at own names of an all add nothing: for a negative one they stand at its new positions.
        members.extend([term for term in cell_places_in(claim) if term[0] == "" or term[0] in frame])
    for claim in positive:
        members.extend(guard_terms(claim))
    return tuple(sorted(set(members)))


def widest_in(claims):
    """The greatest number, without its sign, of all position terms in the claims, at least 1."""
    return max([1] + [abs(number) for claim in claims for word, number in position_terms_in(claim)])


def check_question(question):
    """Raise InvalidQuestion if this is no question."""
    if not isinstance(question, Question):
        raise InvalidQuestion("this is no question")


class Question:
    """Given claims and a wanted one, for a frame."""

    def __init__(self, frame, given, wanted):
        check_frame(frame)
        if not is_question_of(frame, given, wanted):
            raise InvalidQuestion("these are not given claims and a wanted one")
        self._frame = frame
        self._claims = given
        self._goal = wanted
        alls = signed_alls(given, wanted)
        self._negative = tuple([claim for claim, positive in alls if not positive])
        own = [word for claim in self._negative for word in claim[1]]
        self._fresh = tuple([f"*{number}" for number in range(1, len(own) + 1)])
        claims = (*given, wanted)
        self._members = members_of(frame, claims, [claim for claim, positive in alls if positive], self._fresh)
        # Behind this distance of two positions no claim can tell by how much they differ.
        self._reach = 2 * widest_in(claims) + 1
        self._few = (len(frame.positions) + len(frame.lengths) + len(own)) * self._reach

    @property
    def frame(self):
        """The frame."""
        return self._frame

    @property
    def claims(self):
        """The given claims."""
        return self._claims

    @property
    def goal(self):
        """The wanted claim."""
        return self._goal

    @property
    def members(self):
        """The members, ascending."""
        return self._members

    @property
    def fresh(self):
        """The new positions."""
        return self._fresh

    @property
    def few(self):
        """The greatest length that a situation that breaks the question needs."""
        return self._few

    @property
    def facts(self):
        """That lengths are not negative, the given claims, and that the wanted claim is false."""
        lengths = [("pos", "<=", ("", 0), (length, 0)) for length in self._frame.lengths]
        return (*lengths, *self._claims, ("not", self._goal))

    def is_broken_by(self, value):
        """Whether the value is a situation of the frame that breaks the question."""
        if not isinstance(value, Situation) or value.frame != self._frame:
            return False
        for claim in self._claims:
            if not value.holds(claim):
                return False
        return not value.holds(self._goal)

    def new_numbers(self, situation):
        """The integers for the new positions, at which the negative alls that are false are so."""
        self._check_situation(situation)
        numbers = []
        for claim in self._negative:
            failure = situation.failure(claim)
            numbers.extend([0] * len(claim[1]) if failure is None else failure)
        return tuple(numbers)

    def _check_situation(self, situation):
        if not isinstance(situation, Situation) or situation.frame != self._frame:
            raise InvalidSituation("this is no situation for the frame of the question")

    def laid(self, situation):
        """The situation in which cells change at members only."""
        numbers = numbers_in(situation, self._fresh, self.new_numbers(situation))
        return laid_anew(situation, self._members, numbers, numbers)

    def small(self, situation):
        """A situation that breaks the question with few cells, for one that breaks it."""
        self._check_situation(situation)
        if not self.is_broken_by(situation):
            raise InvalidOperation("this situation does not break the question")
        numbers = numbers_in(situation, self._fresh, self.new_numbers(situation))
        return laid_anew(situation, self._members, numbers, drawn_together(numbers, self._reach))

    def with_given(self, claim):
        """The question with one more given claim, the last one."""
        check_claim(self._frame, claim)
        if len(self._claims) == MAX_GIVEN:
            raise InvalidOperation("there are as many given claims as there can be")
        return Question(self._frame, (*self._claims, claim), self._goal)

    def without_given(self, place):
        """The question without the given claim with this index."""
        if not is_index(place, len(self._claims)):
            raise InvalidNumber(place)
        return Question(self._frame, self._claims[:place] + self._claims[place + 1:], self._goal)

    def wanting(self, claim):
        """The question with another wanted claim."""
        check_claim(self._frame, claim)
        return Question(self._frame, self._claims, claim)

    def __len__(self):
        return len(self._claims)

    def __eq__(self, other):
        if not isinstance(other, Question):
            return False
        return (self._frame, self._claims, self._goal) == (other._frame, other._claims, other._goal)

    def __str__(self):
        return f"question of {len(self)} given, {len(self._members)} members, few {self._few}"
