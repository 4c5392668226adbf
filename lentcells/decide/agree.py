"""What is equal or unlike in a sketch of a situation without being known, and what of it can't be so."""

from lentcells.solve.points import said_by
from lentcells.solve.steps import cases_of


def is_unlike(fact):
    """Whether a fact with cases says of two terms that they are not equal."""
    return fact[0] == "not" and fact[1][0] in ("pos", "val")


def soft_pairs(frame, numbers, cells):
    """The triples (reason, cell, point) of what is equal in a situation with these numbers of positions.

    A reason is ("same", array, term, term) for two cells at one position, ("outside", array, term) for one outside.
    """
    mates = {}
    pairs = []
    for cell in cells:
        array, word, shift = cell
        length = frame.length_of(array)
        position = numbers[word] + shift
        if 0 <= position < numbers[length]:
            mate = mates.setdefault((array, position), cell)
            pairs.append((("same", array, (word, shift), mate[1:]), cell, mate))
        elif (word, shift) == ("", 0):
            # No fact tells by its form that cell 0 is outside; but with length 0 it is the cell behind the last one.
            pairs.append((("same", array, (word, shift), (length, 0)), cell, (array, length, 0)))
            pairs.append((("outside", array, (length, 0)), (array, length, 0), ""))
        else:
            pairs.append((("outside", array, (word, shift)), cell, ""))
    return [(reason, cell, point) for reason, cell, point in pairs if cell != point]


def are_mates(one, other):
    """Whether two reasons of a ring say of two cells that they are equal to one and the same cell."""
    return one[0] == "same" and other[0] == "same" and one[1] == other[1] and one[3] == other[3]


def soft_reasons(ring):
    """The reasons of a ring that are not known; two that go through one cell are drawn together."""
    joined = [are_mates(ring[at - 1], ring[at]) for at in range(len(ring))]
    made = []
    for at, reason in enumerate(ring):
        if joined[at]:
            made.append(("same", reason[1], ring[at - 1][2], reason[2]))
        elif reason[0] in ("same", "outside", "unlike") and not joined[(at + 1) % len(ring)]:
            made.append(reason)
    return made


class Soft:
    """Differences that are taken for a while, to find numbers by which as much as possible is as it should be.

    The reason ("unlike", number) is the fact with this number, of which one of both cases is taken.
    """

    def __init__(self, bounds):
        self._bounds = bounds
        self._start = bounds.mark()
        self._equal = None
        self._unlike = []

    def keep_equal(self, pairs):
        """Take that cells are equal to points, as far as possible, and keep the first ring if it is not."""
        for reason, cell, point in pairs:
            for difference in ((cell, point, 0), (point, cell, 0)):
                ring = self._bounds.take(difference, reason)
                if self._equal is None:
                    self._equal = ring

    def keep_apart(self, facts):
        """Take for each pair of a number and a fact one of both cases, if possible the one that is so already."""
        for number, fact in facts:
            one, other = [said_by(case)[0] for case in cases_of(fact)]
            if not self._bounds.fits(one):
                one, other = other, one
            rings = [self._bounds.take(one, ("unlike", number))]
            if rings[0] is not None:
                rings.append(self._bounds.take(other, ("unlike", number)))
            if None not in rings:
                self._unlike.append((("unlike", number), *[reason for ring in rings for reason in soft_reasons(ring)]))

    def spread(self, terms):
        """Take as far as possible that different terms are not equal."""
        for at, one in enumerate(terms):
            for other in terms[:at]:
                if one[0] != other[0]:
                    self._part(one, other)

    def _part(self, one, other):
        low, high = (one[0], other[0], other[1] - one[1]), (other[0], one[0], one[1] - other[1])
        if self._bounds.fits(low) and self._bounds.fits(high):
            for word, further, most in (low, high):
                if self._bounds.take((word, further, most - 1), ("spread",)) is None:
                    return

    def fit(self):
        """The numbers that fit; what was taken for them is taken back."""
        found = self._bounds.fit()
        self._bounds.back_to(self._start)
        return found

    def failed(self):
        """The reasons of what can't be as it should be, each once, what is unlike last: one has to be opened."""
        found = [] if self._equal is None else soft_reasons(self._equal)
        if len(self._unlike) > 0:
            found = found + list(self._unlike[0])
        once = list({reason: True for reason in found})
        unlike = [reason for reason in once if reason[0] == "unlike"]
        return [reason for reason in once if reason[0] != "unlike"] + unlike
