"""Differences that come and go, with integers that fit those that are there."""


def ring_back(back, one, other, reason):
    """The reasons of a ring, from the point `other` back to `one`, and of the difference that closes it."""
    reasons = []
    point = other
    while point != one:
        point, why = back[point]
        reasons.append(why)
    return [*reasons, reason]


class Bounds:
    """Differences with their reasons, and a level for each point that fits all of them.

    Differences are taken back in the opposite order only. A level that fits more differences fits fewer, too.
    """

    def __init__(self):
        self._levels = {"": 0}
        self._kept = []
        self._above = {}

    def take(self, difference, reason):
        """Keep one more difference and return None; or return the reasons of a ring that it would close."""
        one, other, most = difference
        self._levels.setdefault(one, self._levels[""])
        self._levels.setdefault(other, self._levels[""])
        if one == other and most < 0:
            return [reason]
        if self._levels[one] > self._levels[other] + most:
            ring = self._lower(one, other, most, reason)
            if ring is not None:
                return ring
        self._kept.append(difference)
        self._above.setdefault(other, []).append((one, most, reason))
        return None

    def _lower(self, one, other, most, reason):
        lowered = {one: self._levels[other] + most}
        back = {}
        waiting = [one]
        done = 0
        while done < len(waiting):
            point = waiting[done]
            done += 1
            for above, weight, why in self._above.get(point, ()):
                level = lowered[point] + weight
                if level < lowered.get(above, self._levels[above]):
                    back[above] = (point, why)
                    if above == other:
                        return ring_back(back, one, other, reason)
                    lowered[above] = level
                    waiting.append(above)
        for point, level in lowered.items():
            self._levels[point] = level
        return None

    def mark(self):
        """What `back_to` needs to come back to the differences and levels of now."""
        return len(self._kept), self._copied()

    def _copied(self):
        return {point: level for point, level in self._levels.items()}

    def back_to(self, mark):
        """Take back all differences that came behind a mark."""
        many, levels = mark
        while len(self._kept) > many:
            difference = self._kept.pop()
            self._above[difference[1]].pop()
        self._levels = {point: level for point, level in levels.items()}

    def clash(self, differences):
        """Whether these differences, all of them together, would close a ring."""
        mark = self.mark()
        closed = False
        for difference in differences:
            closed = closed or self.take(difference, None) is not None
        self.back_to(mark)
        return closed

    def fit(self):
        """The dict from all points to integers, 0 for the empty name, that fit."""
        return {point: level - self._levels[""] for point, level in self._levels.items()}

    def cells(self):
        """The cells in the differences, ascending."""
        points = [point for one, other, most in self._kept for point in (one, other)]
        return sorted(set([point for point in points if isinstance(point, tuple)]))
