"""How good it is to go on in several cases, by how much each of them makes of what stands to be done.

What stands to be done is measured in 64ths of bits: the logarithm of the number of ways to do it all. It is taken that
the number of nodes grows as a power of this number of ways; the exponent of the power, in 65536ths, is the rate.
"""

from math import isqrt

PARTS = 64
FINE = 65536
WHOLE = 2 ** 20
MOST_RATE = 2 ** 26
# About how many nodes there are behind a way for which nothing stands to be done.
LAST = 50


def bits_of(many):
    """The logarithm of a number of ways."""
    return (many ** 64).bit_length() - 1


def root_of(number):
    """The 64th root of an integer."""
    for _ in range(6):
        number = isqrt(number)
    return number


class Growth:
    """How the number of nodes grows, with a rate that is found once."""

    def __init__(self):
        self._table = [root_of(WHOLE ** 64 << step) for step in range(PARTS)]
        self._rate = None

    def _grown(self, bits, rate):
        # The power of 2 with so many bits, times the rate.
        steps = bits * rate // FINE
        return self._table[steps - steps // PARTS * PARTS] << (steps // PARTS)

    def _is_within(self, made, rate):
        # Whether with this rate cases that make so much each have together no more nodes than what they are cases of.
        return sum([WHOLE * WHOLE // self._grown(max([part, 1]), rate) for part in made]) <= WHOLE

    def _rate_of(self, made):
        low, high = 0, MOST_RATE
        while high - low > 1:
            middle = (low + high) // 2
            if self._is_within(made, middle):
                high = middle
            else:
                low = middle
        return high

    def find_rate(self, bits, behind):
        """Take the least rate with which one of several lists of what is left behind cases fits what was ahead.

        What is left behind a case is a pair: how much stands to be done, None if it is closed at once; and about how
        many nodes close it then.
        """
        if self._rate is not None:
            return
        made = [[bits - left for left, nodes in found if left is not None] for found in behind]
        rates = [self._rate_of(parts) for parts in made if len(parts) > 1]
        if len(rates) > 0:
            self._rate = min(rates)

    def nodes_behind(self, found):
        """About how many nodes there are behind cases that leave so much."""
        rate = 0 if self._rate is None else self._rate
        grown = sum([LAST * self._grown(left, rate) for left, nodes in found if left is not None])
        return grown // WHOLE + sum([nodes for left, nodes in found if left is None])
