"""Steps that tell of cells what follows from where they stand: that they are equal, or outside and 0."""


def below(one, other):
    """The claim that one position term is less than another one."""
    return ("pos", "<", one, other)


def is_equal(reach, one, other, most):
    """Whether one point is known to be another one and so much more."""
    return reach.says((one, other, most)) and reach.says((other, one, -most))


def outside_claim(frame, known, cell):
    """The claim by which a cell is outside of its array, if it is known to be so and not known to be 0; or None."""
    array, word, shift = cell
    if is_equal(known.worths, cell, "", 0):
        return None
    length = frame.length_of(array)
    if known.spans.says((word, "", -1 - shift)):
        return below((word, shift), ("", 0))
    return below((length, -1), (word, shift)) if known.spans.says((length, word, shift)) else None


def standing_cells(search):
    """The cells at which a search looks whose terms have no names that are still to be made."""
    return [cell for cell in search.ground.read_cells if search.has_terms((cell[1:],))]


def are_unknown_mates(known, one, other):
    """Whether two cells of an array are at one position, and are not known to be equal."""
    if one[0] != other[0] or not is_equal(known.spans, one[1], other[1], other[2] - one[2]):
        return False
    return not is_equal(known.worths, one, other, 0)


def derived_step(search, known):
    """A step towards a cell that is outside, or two cells that are equal, without being known to be; or None."""
    cells = standing_cells(search)
    for at, cell in enumerate(cells):
        claim = outside_claim(search.base, known, cell)
        if claim is not None:
            return outside_step(search, known, cell, claim)
        for mate in cells[:at]:
            if are_unknown_mates(known, mate, cell):
                return step_by(search, "same", cell[0], (("==", mate[1:], cell[1:]), ("==", cell[1:], mate[1:])))
    return None


def with_derived(search, known):
    """What is known with what follows of cells from where they stand, or None if this can't be true."""
    cells = standing_cells(search)
    for at, cell in enumerate(cells):
        points = [mate for mate in cells[:at] if are_unknown_mates(known, mate, cell)]
        if outside_claim(search.base, known, cell) is not None:
            points = [""]
        for point in points[:1]:
            known = known.with_way([(False, (cell, point, 0)), (False, (point, cell, 0))])
            if known is None:
                return None
    return known


def outside_step(search, known, cell, claim):
    """A step towards a cell that is outside by a claim."""
    array, length = cell[0], search.base.length_of(cell[0])
    if cell[1:] != ("", 0):
        return step_by(search, "outside", array, (claim[1:],))
    # No fact tells by its form that cell 0 is outside; but with length 0 it is the cell behind the last one.
    if is_equal(known.worths, (array, length, 0), "", 0):
        return step_by(search, "same", array, (("==", ("", 0), (length, 0)), ("==", (length, 0), ("", 0))))
    return step_by(search, "outside", array, (("<", (length, -1), (length, 0)),))


def step_by(search, kind, array, claims):
    """The step of this kind by one of the comparisons of positions, or one that holds the terms apart ahead of it."""
    for claim in claims:
        number = search.number_of(("pos", *claim))
        if number is not None:
            return (kind, array, number)
    return ("apart", *claims[0][1:])
