"""Sketches of situations: numbers, and cells that change only where a cell is known."""

from lentcells.world.looking import breaks
from lentcells.world.meaning import Meaning


class Sketch(Meaning):
    """What a situation would be with these numbers and known cells.

    `spots` has for each array its known cells, ascending: pairs of a position inside of it and its content. `seats`
    are the ascending numbers of the terms for which alls are looked at: where cells change at such terms only, a
    positive all that is false is false for some of them.
    """

    def __init__(self, frame, spots, numbers, contents, seats):
        Meaning.__init__(self, {}, numbers, contents)
        self._frame = frame
        self._spots = spots
        self._seats = seats

    def with_numbers(self, numbers):
        """The same with more names of positions."""
        return Sketch(self._frame, self._spots, {**self._numbers, **numbers}, self._contents, self._seats)

    def size_of(self, array):
        """How many cells an array has."""
        return self._numbers[self._frame.length_of(array)]

    def cell(self, array, position):
        """The content of the last known cell that is not beyond the position, 0 outside of the array."""
        spots = self._spots[array]
        if len(spots) == 0 or not 0 <= position < self.size_of(array):
            return 0
        found = spots[0][1]
        for spot, content in spots:
            if spot <= position:
                found = content
        return found

    def misses(self, claim):
        """All tuples of numbers of terms for its own names for which an all is false."""
        if len(claim[1]) == 1:
            tries = [(one,) for one in self._seats]
        else:
            tries = [(one, other) for one in self._seats for other in self._seats]
        return [at for at in tries if breaks(self, claim, at)]

    def miss(self, claim):
        """The first of these tuples, or None."""
        found = self.misses(claim)
        return found[0] if len(found) > 0 else None


def numbers_for(frame, made, levels):
    """The numbers of the empty name, of all positions and lengths, and of the new names."""
    return {word: levels.get(word, 0) for word in ("", *frame.positions, *frame.lengths, *made)}


def known_spots(frame, numbers, cells, contents):
    """The dict from the arrays to their known cells that are inside, ascending."""
    spots = {array: [] for array, length in frame.arrays}
    for cell in cells:
        array, word, shift = cell
        position = numbers[word] + shift
        if 0 <= position < numbers[frame.length_of(array)]:
            spots[array].append((position, contents[cell]))
    return {array: sorted(pairs) for array, pairs in spots.items()}
