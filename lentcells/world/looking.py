"""For which numbers an all is looked at, and the least ones for which it is false."""

from lentcells.logic.forms import atoms_in, guard_terms


def guard_bounds(meaning, claim):
    """What the terms without own names in the guard of an all are."""
    return [meaning.position(term) for term in guard_terms(claim)]


def looked_at(meaning, claim):
    """The ascending positions for which an all needs a look.

    Between two neighboring bounds outside of all arrays the least position says as much as the others.
    """
    lengths = meaning.row_lengths()
    bounds = [-1, *lengths, *guard_bounds(meaning, claim)]
    near = [bound + step for bound in bounds for step in (-1, 0, 1)]
    inside = list(range(max([0, *lengths])))
    low, high = min(bounds), max(bounds)
    return [spot for spot in sorted(set(near + inside)) if low <= spot <= high]


def breaks(meaning, claim, at):
    """Whether the guard of an all is true, and its body false, for these numbers of its own names."""
    inside = meaning.with_numbers({word: number for word, number in zip(claim[1], at)})
    return inside.holds(claim[2]) and not inside.holds(claim[3])


def first_failure(meaning, claim):
    """The least tuple of numbers for its own names for which an all is false, or None."""
    spots = looked_at(meaning, claim)
    if len(claim[1]) == 2:
        return first_pair(meaning, claim, spots)
    for spot in spots:
        if breaks(meaning, claim, (spot,)):
            return (spot,)
    return None


def side_of(one, other):
    """-1, 0 or 1: how one integer compares with another one."""
    if one == other:
        return 0
    return -1 if one < other else 1


def mark_of(meaning, arrays, bounds, spot):
    """All that an all can tell of one of its own names at a position, but for how it compares with the other one."""
    return tuple([meaning.cell(array, spot) for array in arrays] + [side_of(spot, bound) for bound in bounds])


def own_arrays(claim):
    """The arrays of which an all reads cells at its own names."""
    terms = [term for atom in atoms_in(claim[3]) for term in atom[2:]]
    return sorted(set([term[0] for term in terms if len(term) == 4 and term[1] in claim[1]]))


class PairLook:
    """An all with two own names, which is asked once for all pairs of positions that it can't tell apart."""

    def __init__(self, meaning, claim, spots):
        arrays, bounds = own_arrays(claim), guard_bounds(meaning, claim)
        self._meaning = meaning
        self._claim = claim
        self._marks = {spot: mark_of(meaning, arrays, bounds, spot) for spot in spots}
        self._known = {}

    def ends(self):
        """The first and the last position of each kind."""
        first, last = {}, {}
        for spot, mark in self._marks.items():
            first.setdefault(mark, spot)
            last[mark] = spot
        return list(first.values()) + list(last.values())

    def breaks_at(self, one, other):
        """Whether the all is false for these two numbers."""
        key = (self._marks[one], self._marks[other], side_of(one, other))
        if key not in self._known:
            self._known[key] = breaks(self._meaning, self._claim, (one, other))
        return self._known[key]


def first_pair(meaning, claim, spots):
    """The least pair of positions for which an all with two own names is false, or None."""
    look = PairLook(meaning, claim, spots)
    ends = look.ends()
    for one in spots:
        # A kind with a position ahead of this one has its first one there, and likewise behind it its last one.
        if any([look.breaks_at(one, other) for other in [*ends, one]]):
            return (one, [other for other in spots if look.breaks_at(one, other)][0])
    return None
