"""What terms and claims mean for given rows and numbers."""

from lentcells.world.looking import first_failure


class Meaning:
    """Rows of arrays, numbers of positions and lengths, and numbers of values, to read terms and claims by.

    Both kinds of numbers have 0 under the empty name of terms that are a number alone.
    """

    def __init__(self, rows, numbers, contents):
        self._rows = rows
        self._numbers = numbers
        self._contents = contents

    def with_numbers(self, numbers):
        """The same with more names of positions."""
        return Meaning(self._rows, {**self._numbers, **numbers}, self._contents)

    def row_lengths(self):
        """The lengths of all arrays."""
        return [len(row) for row in self._rows.values()]

    def is_inside(self, array, position):
        """Whether a position is inside of an array."""
        return 0 <= position < len(self._rows[array])

    def cell(self, array, position):
        """The cell of an array, 0 outside of it."""
        row = self._rows[array]
        return row[position] if 0 <= position < len(row) else 0

    def position(self, term):
        """What a position term is."""
        return self._numbers[term[0]] + term[1]

    def content(self, term):
        """What a value term is."""
        if len(term) == 2:
            return self._contents[term[0]] + term[1]
        return self.cell(term[0], self.position(term[1:3])) + term[3]

    def miss(self, claim):
        """The least tuple of numbers for its own names for which an all is false, or None."""
        return first_failure(self, claim)

    def holds(self, claim):
        """Whether a claim is true."""
        word = claim[0]
        if word == "not":
            return not self.holds(claim[1])
        if word == "and":
            return not self._has_part(claim[1], False)
        if word == "or":
            return self._has_part(claim[1], True)
        if word == "all":
            return self.miss(claim) is None
        if word == "pos":
            return is_compared(self.position(claim[2]), claim[1], self.position(claim[3]))
        return is_compared(self.content(claim[2]), claim[1], self.content(claim[3]))

    def _has_part(self, parts, wanted):
        for part in parts:
            if self.holds(part) == wanted:
                return True
        return False


def is_compared(one, op, other):
    """Whether two integers compare as the sign says."""
    if op == "<=":
        return one <= other
    return one < other if op == "<" else one == other
