"""Ors that are always true: their parts compare the same two points, and leave out no number that is still possible."""


def cover_of(parts):
    """The triple (of_positions, points, spans) of the forms of an or whose atoms compare the same two points, or None.

    The spans have the numbers that the parts leave for one point less the other one, the lowest ones first.
    """
    if len(parts) < 2 or not all([part[0] == "atom" for part in parts]):
        return None
    if not all([part[1] == parts[0][1] for part in parts]):
        return None
    one, other, most = parts[0][2][0]
    pairs = [said[:2] for part in parts for said in part[2]]
    if one == other or not all([pair in ((one, other), (other, one)) for pair in pairs]):
        return None
    spans = [span_of(part[2], one) for part in parts]
    endless = [span for span in spans if span[0] is None]
    others = sorted([span for span in spans if span[0] is not None], key=lambda span: span[0])
    return parts[0][1], (one, other), endless + others


def span_of(differences, one):
    """The least and the greatest number that are left for a point less another one, None for one without end."""
    low, high = None, None
    for first, second, most in differences:
        if first == one:
            high = most
        else:
            low = -most
    return low, high


def is_covered(low, high, spans):
    """Whether all integers from one to another one, None for one without end, are in the spans."""
    # What is below this is in some span, or not asked for.
    further = low
    for first, last in spans:
        if first is None or (further is not None and first <= further):
            if last is None:
                return True
            further = last + 1 if further is None else max([further, last + 1])
    return high is not None and further is not None and further > high
