"""Situations laid anew: cells that change at members only, and positions drawn together."""

from lentcells.world.situations import loose_situation


def numbers_in(situation, fresh, numbers):
    """The dict from the empty name, all positions and lengths, and the new positions to their integers."""
    made = {word: number for word, number in zip(fresh, numbers)}
    return {"": 0, **situation.positions, **situation.lengths, **made}


def drawn_together(numbers, most):
    """The numbers in their order, with each step between neighbors, 0 among them, at most so great."""
    spots = sorted(set([0, *list(numbers.values())]))
    moved = {0: 0}
    zero = spots.index(0)
    for at in range(zero + 1, len(spots)):
        moved[spots[at]] = moved[spots[at - 1]] + min([spots[at] - spots[at - 1], most])
    for at in reversed(range(zero)):
        moved[spots[at]] = moved[spots[at + 1]] - min([spots[at + 1] - spots[at], most])
    return {word: moved[number] for word, number in numbers.items()}


def laid_row(row, sources, length):
    """A row of this length in which each cell is the one at the source of the greatest spot not beyond it.

    `sources` is a dict from spots to their places in the row; 0 is a spot.
    """
    spots = [spot for spot in sorted(sources) if 0 <= spot < length]
    made = []
    for spot, end in zip(spots, [*spots[1:], length]):
        made.extend([row[sources[spot]]] * (end - spot))
    return tuple(made)


def laid_anew(situation, members, old, new):
    """The situation with the numbers `new` in the place of `old`, and with cells that change at members only."""
    sources = {new[word] + more: old[word] + more for word, more in members}
    frame, rows = situation.frame, situation.rows
    made = {array: laid_row(rows[array], sources, new[length]) for array, length in frame.arrays}
    positions = {word: new[word] for word in frame.positions}
    return loose_situation(frame, made, positions, situation.amounts)
