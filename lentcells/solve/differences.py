"""Differences: integers that fit, rings that show that none do, and the tightest bounds."""

from lentcells.base.integers import is_index, is_whole
from lentcells.errors import InvalidOperation, InvalidTerm
from lentcells.logic.claims import check_claim
from lentcells.solve.points import are_differences, is_point, is_ring_of, points_of, said_by


def check_differences(differences):
    """Raise InvalidOperation if these are no differences."""
    if not are_differences(differences):
        raise InvalidOperation("these are no differences")


def relax(differences, levels, back):
    """Lower the levels once along all differences, and return the last point that was lowered, or None.

    In `back` each point keeps the index of the difference that lowered it last.
    """
    last = None
    for index, (one, other, most) in enumerate(differences):
        if other in levels and (one not in levels or levels[other] + most < levels[one]):
            levels[one] = levels[other] + most
            back[one] = index
            last = one
    return last


def settle(differences, levels, back):
    """Lower the levels until they fit, and return None, or a point behind which there is a ring."""
    last = None
    # Without a ring no chain has more steps than there are points.
    for _ in range(len(points_of(differences)) + 1):
        last = relax(differences, levels, back)
        if last is None:
            return None
    return last


def fitting(differences):
    """Any dict from the points to integers for which all differences are true, or None."""
    check_differences(differences)
    levels = {point: 0 for point in points_of(differences)}
    if settle(differences, levels, {}) is not None:
        return None
    return {point: level - levels[""] for point, level in levels.items()}


def is_fitting(differences, value):
    """Whether the value is a dict from the points to integers for which all differences are true."""
    check_differences(differences)
    if not isinstance(value, dict) or not all([is_point(point) for point in value]):
        return False
    points = points_of(differences)
    if len(value) != len(points) or not all([point in value for point in points]):
        return False
    if not all([is_whole(number) for number in value.values()]) or value[""] != 0:
        return False
    return all([value[one] - value[other] <= most for one, other, most in differences])


def ring(differences):
    """Any ring of the differences, or None."""
    check_differences(differences)
    levels = {point: 0 for point in points_of(differences)}
    back = {}
    point = settle(differences, levels, back)
    if point is None:
        return None
    # So many steps back the chain goes round the ring, whatever leads to it.
    for _ in levels:
        point = differences[back[point]][1]
    return ring_through(differences, back, point)


def ring_through(differences, back, start):
    """The indices of the ring that leads back to a point of it."""
    indices = [back[start]]
    while differences[indices[-1]][1] != start:
        indices.append(back[differences[indices[-1]][1]])
    return tuple(indices)


def is_ring(differences, value):
    """Whether the value is a ring of the differences."""
    check_differences(differences)
    if not isinstance(value, tuple) or len(value) == 0:
        return False
    if not all([is_index(index, len(differences)) for index in value]):
        return False
    return is_ring_of([differences[index] for index in value])


def tightest(differences, one, other):
    """The least integer that one point less another one never exceeds, or None."""
    check_differences(differences)
    for point in (one, other):
        if not is_point(point):
            raise InvalidTerm("this is no point")
    if fitting(differences) is None:
        raise InvalidOperation("nothing fits")
    levels = {other: 0}
    settle(differences, levels, {})
    return levels.get(one)


def differences_of(frame, claim):
    """What an atom, or a not of an atom with <= or <, says, as a tuple of differences."""
    check_claim(frame, claim)
    said = said_by(claim)
    if len(said) == 0:
        raise InvalidOperation("this claim says no differences")
    return said
