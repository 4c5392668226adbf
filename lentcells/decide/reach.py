"""The tightest bounds that differences say of all pairs of points, kept up to date with each further one."""


class Reach:
    """For pairs of points how much the first one exceeds the second one at most."""

    def __init__(self):
        self._most = {}

    def copied(self):
        """A copy that goes on by itself."""
        made = Reach()
        made._most = {one: {other: most for other, most in row.items()} for one, row in self._most.items()}
        return made

    def gap(self, one, other):
        """How much one point exceeds another one at most, or None."""
        if one == other:
            return 0
        return self._most[one].get(other) if one in self._most else None

    def says(self, difference):
        """Whether a difference is true by what is known."""
        one, other, most = difference
        bound = self.gap(one, other)
        return bound is not None and bound <= most

    def bars(self, difference):
        """Whether a difference is false by what is known."""
        one, other, most = difference
        bound = self.gap(other, one)
        return bound is not None and bound + most < 0

    def take(self, difference):
        """Keep one more difference; whether it is not false by what is known."""
        if self.bars(difference):
            return False
        if not self.says(difference):
            self._keep(difference)
        return True

    def _keep(self, difference):
        one, other, most = difference
        for point in (one, other):
            self._most.setdefault(point, {point: 0})
        further = list(self._most[other].items())
        for row in list(self._most.values()):
            if one in row:
                ahead = row[one] + most
                for point, more in further:
                    if point not in row or ahead + more < row[point]:
                        row[point] = ahead + more

    def take_all(self, differences):
        """Keep differences; whether none is false by what is known then."""
        for difference in differences:
            if not self.take(difference):
                return False
        return True
