"""The numbers of rows and loops, and which rows come behind which."""

from lentcells.code.rows import rows_in


class Layout:
    """All rows by their numbers.

    `flat` has the rows, `loops` the numbers of the whiles, `inside` for each row the number of the innermost loop in
    whose rows it stands, or None, and `ways` for each row what can come behind it: for a condition first what comes
    if it is true and then what comes if it is false.
    """

    def __init__(self, rows):
        self.flat = tuple(rows_in(rows))
        self.loops = []
        self.inside = []
        self.ways = []
        self._number_rows(rows, len(self.flat), None)

    def _number_rows(self, rows, behind, loop):
        for at, row in enumerate(rows):
            number = len(self.inside)
            after = behind if at == len(rows) - 1 else number + len(rows_in((row,)))
            self.inside.append(loop)
            self.ways.append(ways_of(row, number, after))
            if row[0] == "while":
                self.loops.append(number)
                self._number_rows(row[2], number, len(self.loops) - 1)
            elif row[0] == "if":
                self._number_rows(row[2], after, loop)
                self._number_rows(row[3], after, loop)


def ways_of(row, number, after):
    """What can come behind a row with a number, where `after` comes if it has no rows or is left."""
    if row[0] == "while":
        return (number + 1 if len(row[2]) > 0 else number, after)
    if row[0] != "if":
        return (after,)
    others = number + 1 + len(rows_in(row[2]))
    return (number + 1 if len(row[2]) > 0 else after, others if len(row[3]) > 0 else after)
