"""Which cells rows ask, and which of them is outside first."""


def outside_of(meaning, terms):
    """The array of the first of the value terms that is a cell outside of it, or None."""
    for term in terms:
        if len(term) == 4 and not meaning.is_inside(term[0], meaning.position(term[1:3])):
            return term[0]
    return None


def asked(meaning, condition):
    """The pair of whether a condition is true and the array of the first cell outside, with one of both None."""
    word = condition[0]
    if word == "pos":
        return meaning.holds(condition), None
    if word == "val":
        array = outside_of(meaning, condition[2:])
        return (meaning.holds(condition), None) if array is None else (None, array)
    if word == "not":
        truth, array = asked(meaning, condition[1])
        return (None if truth is None else not truth), array
    # Parts behind one that decides are not asked.
    decisive = word == "or"
    for part in condition[1]:
        truth, array = asked(meaning, part)
        if array is not None or truth == decisive:
            return truth, array
    return not decisive, None


def outside_at(meaning, row):
    """The array of the first cell that a row asks outside of it, or None."""
    word = row[0]
    if word in ("if", "while"):
        return asked(meaning, row[1])[1]
    if word == "call":
        return outside_of(meaning, row[4])
    if word == "keep":
        return outside_of(meaning, (row[2],))
    return outside_of(meaning, (row[4], (*row[1:4], 0))) if word == "write" else None
