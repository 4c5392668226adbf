"""Differences that come and go, with integers that fit those that are there."""


def ring_back(back, one, other, reason):
    """The reasons of a ring, from the point `other` back to `one`, and of the difference that closes it."""
    reasons = []
    point = other
    while point != one:
        point, why = back[point]
        reasons.append(why)
    return [*reasons, reason]


class Bounds:
    """Differences with their reasons, and a level for each point that fits all of them.

    Differences are taken back in the opposite order only. A level that fits more differences fits fewer, too.
    """

    def __init__(self):
        self._levels = {"": 0}
        self._kept = []
        self._above = {}

    def take(self, difference, reason):
        """Keep one more difference and return None; or return the reasons of a ring that it would close."""
        one, other, most = difference
        self._levels.setdefault(one, self._levels[""])
        self._levels.setdefault(other, self._levels[""])
        if one == other and most < 0:
            return [reason]
        if self._levels[one] > self._levels[other] + most:
            lowered, ring = self._lowered(one, other, most, reason)
            if ring is not None:
                return ring
            for point, level in lowered.items():
                self._levels[point] = level
        self._kept.append(difference)
        self._above.setdefault(other, []).append((one, most, reason))
        return None

    def _lowered(self, one, other, most, reason):
        # The pair of the levels that are to be lowered and None, or of None and a ring.
        lowered = {one: self._levels[other] + most}
        back = {}
        waiting = [one]
        done = 0
        while done < len(waiting):
            point = waiting[done]
            done += 1
            for above, weight, why in self._above.get(point, ()):
                level = lowered[point] + weight
                if level < lowered.get(above, self._levels[above]):
                    back[above] = (point, why)
                    if above == other:
                        return None, ring_back(back, one, other, reason)
                    lowered[above] = level
                    waiting.append(above)
        return lowered, None

    def mark(self):
        """What `back_to` needs to come back to the differences and levels of now."""
        return len(self._kept), self._copied()

    def _copied(self):
        return {point: level for point, level in self._levels.items()}

    def back_to(self, mark):
        """Take back all differences that came behind a mark."""
        many, levels = mark
        while len(self._kept) > many:
            difference = self._kept.pop()
            self._above[difference[1]].pop()
        self._levels = {point: level for point, level in levels.items()}

    def take_all(self, differences):
        """Take differences until one would close a ring; whether none does."""
        for difference in differences:
            if self.take(difference, None) is not None:
                return False
        return True

    def clash(self, differences):
        """Whether these differences, all of them together, would close a ring."""
        if len(differences) == 0:
            return False
        mark = self.mark()
        fits = self.take_all(differences)
        self.back_to(mark)
        return not fits

    def fits(self, difference):
        """Whether the levels fit a difference."""
        one, other, most = difference
        start = self._levels[""]
        return self._levels.get(one, start) <= self._levels.get(other, start) + most

    def fit(self):
        """The dict from all points to integers, 0 for the empty name, that fit."""
        return {point: level - self._levels[""] for point, level in self._levels.items()}

    def cells(self):
        """The cells in the differences, ascending."""
        points = [point for one, other, most in self._kept for point in (one, other)]
        return sorted(set([point for point in points if isinstance(point, tuple)]))
