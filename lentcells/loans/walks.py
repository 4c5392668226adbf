"""Walks: which tuples of rows are some, and how to come to a row, a fact or a fault by the fewest rows."""

from lentcells.base.integers import is_index
from lentcells.loans.flow import empty_loans, facts_behind, nexts_of, row_faults

MAX_WALK = 400


def nexts_behind(function, walk):
    """The ascending tuple of what can come next behind a walk, the end among it."""
    return (0,) if len(walk) == 0 else nexts_of(function, walk[-1])


def is_walk_of(function, value):
    """Whether the value is a walk of the function, of any length."""
    if not isinstance(value, tuple) or not all([is_index(row, len(function)) for row in value]):
        return False
    nexts = (0,)
    for row in value:
        if row not in nexts:
            return False
        nexts = nexts_of(function, row)
    return True


def is_short_walk(function, value):
    """Whether the value is a walk of at most 400 rows."""
    return isinstance(value, tuple) and len(value) <= MAX_WALK and is_walk_of(function, value)


def facts_along(program, function, walk):
    """The dicts of the facts ahead of each row of a walk, and behind the last one."""
    found = [empty_loans(function)]
    for row in walk:
        found.append(facts_behind(program, function, row, found[-1]))
    return found


def has_fault_last(program, function, walk):
    """Whether the last row of a walk has a fault; a walk without rows has none."""
    if len(walk) == 0:
        return False
    facts = facts_along(program, function, walk[:-1])[-1]
    return len(row_faults(program, function, walk[-1], facts)) > 0


class Going:
    """All pairs of a row and a fact to which walks lead, with the fewest rows: each fact comes of one or of none.

    The pair of a row and None stands for walks to the row, whatever is so there.
    """

    def __init__(self, program, function):
        self._program = program
        self._function = function
        starts = [(0, fact) for fact in (None, *sorted(empty_loans(function)))]
        self._back = {pair: None for pair in starts}
        # The pairs in the order in which they are found: those behind fewer rows first.
        self.pairs = starts
        done = 0
        while done < len(self.pairs):
            self._go_on(self.pairs[done])
            done += 1

    def _go_on(self, pair):
        number, fact = pair
        ahead = {} if fact is None else {fact: True}
        facts = sorted(facts_behind(self._program, self._function, number, ahead))
        if fact is None:
            facts.append(None)
        for further in nexts_of(self._function, number):
            for found in facts:
                if (further, found) not in self._back:
                    self._back[(further, found)] = pair
                    self.pairs.append((further, found))

    def walk_to(self, pair):
        """The walk behind which the row of a pair comes and its fact is so, or None."""
        if pair not in self._back:
            return None
        walk = []
        pair = self._back[pair]
        while pair is not None:
            walk.append(pair[0])
            pair = self._back[pair]
        return tuple(walk[::-1])

    def has_fault_at(self, pair):
        """Whether the row of a pair has a fault by its fact, or by none."""
        facts = {} if pair[1] is None else {pair[1]: True}
        return len(row_faults(self._program, self._function, pair[0], facts)) > 0
