"""What is equal in a sketch of a situation, and which of it can't be so."""


def soft_pairs(frame, numbers, cells):
    """The triples (reason, cell, point) of what is equal in a situation with these numbers of positions.

    A reason is ("same", array, term, term) for two cells at one position, ("outside", array, term) for one outside.
    """
    mates = {}
    pairs = []
    for cell in cells:
        array, word, shift = cell
        length = frame.length_of(array)
        position = numbers[word] + shift
        if 0 <= position < numbers[length]:
            mate = mates.setdefault((array, position), cell)
            pairs.append((("same", array, (word, shift), mate[1:]), cell, mate))
        elif (word, shift) == ("", 0):
            # No fact tells by its form that cell 0 is outside; but with length 0 it is the cell behind the last one.
            pairs.append((("same", array, (word, shift), (length, 0)), cell, (array, length, 0)))
            pairs.append((("outside", array, (length, 0)), (array, length, 0), ""))
        else:
            pairs.append((("outside", array, (word, shift)), cell, ""))
    return [(reason, cell, point) for reason, cell, point in pairs if cell != point]


def soft_ring(worths, pairs):
    """Take what is equal as far as possible, and return the reasons of the first ring, or None."""
    found = None
    for reason, cell, point in pairs:
        for difference in ((cell, point, 0), (point, cell, 0)):
            ring = worths.take(difference, reason)
            if found is None:
                found = ring
    return found


def are_mates(one, other):
    """Whether two reasons of a ring say of two cells that they are equal to one and the same cell."""
    return one[0] == "same" and other[0] == "same" and one[1] == other[1] and one[3] == other[3]


def soft_reasons(ring):
    """The reasons of a ring that are not known; two that go through one cell are drawn together."""
    joined = [are_mates(ring[at - 1], ring[at]) for at in range(len(ring))]
    made = []
    for at, reason in enumerate(ring):
        if joined[at]:
            made.append(("same", reason[1], ring[at - 1][2], reason[2]))
        elif reason[0] in ("same", "outside") and not joined[(at + 1) % len(ring)]:
            made.append(reason)
    return made
