"""Runs by the words of the document, with lists of Python as places."""

import copy

from making import PlainLoans, plain_rows

SIGNS = {"<=": lambda one, other: one <= other, "<": lambda one, other: one < other,
         "==": lambda one, other: one == other}


class Stopped(Exception):
    """The run has a fault."""


class PlainRun:
    """What a run does: `states` yields what is so ahead of each row, and at the end of the first function.

    Such a state is a tuple (function, row, fault, rows, positions, values), with None for function and row at the end.
    With `marks` there are also tuples ("before" or "after", function, rows, positions, values) of functions that begin
    and end.
    """

    def __init__(self, program, called, situation, copying, careless, marks=False):
        self.program, self.copying, self.careless, self.marks = program, copying, careless, marks
        function = program[called]
        self.places = [list(situation.rows[told[1]]) for told in function.arrays]
        self.start = (called, list(self.places), [situation.positions[word] for word in function.positions],
                      [situation.amounts[word] for word in function.amounts])

    def states(self):
        """All states, the last one at a fault or at the end."""
        try:
            yield from self.function(*self.start, True)
        except Stopped as stopped:
            yield stopped.args[0]

    def function(self, called, arrays, positions, values, first):
        function = self.program[called]
        names = {told[1]: array for told, array in zip(function.arrays, arrays)}
        was = {told[3]: tuple(array) for told, array in zip(function.arrays, arrays) if told[0] == "full"}
        names.update({told[1]: None for told in function.loans})
        places = {**dict(zip(function.positions, positions)), **{word: 0 for word in function.places}}
        amounts = {**dict(zip(function.amounts, values)), **{word: 0 for word in function.numbers}}
        self_lengths = {told[2]: names[told[1]] for told in function.arrays}
        lent = PlainLoans(self.program, called)
        rows = plain_rows(function)

        def length(word):
            return len(self_lengths[word])

        def place(term):
            word, more = term
            return more + (0 if word == "" else places[word] if word in places else length(word))

        def amount(term):
            if len(term) == 2:
                return term[1] + (0 if term[0] == "" else amounts[term[0]])
            at, row = place(term[1:3]), names[term[0]]
            if not 0 <= at < len(row):
                raise IndexError(term[0])
            return row[at] + term[3]

        def is_true(claim):
            if claim[0] in ("pos", "val"):
                read = place if claim[0] == "pos" else amount
                return SIGNS[claim[1]](read(claim[2]), read(claim[3]))
            if claim[0] == "not":
                return not is_true(claim[1])
            return (all if claim[0] == "and" else any)(is_true(part) for part in claim[1])

        def state(at, fault):
            held = {array: tuple(row) if row is not None else (0,) * length(function.frame.length_of(array))
                    for array, row in names.items()}
            return (called, at, fault, {**held, **was}, dict(places), dict(amounts))

        def mark(word):
            return (word, *state(None, None)[:1], *state(None, None)[3:])

        if self.marks:
            yield mark("before")
        at = 0
        while at < len(rows):
            row, ways = rows[at]
            faults = copy.deepcopy(lent).do(at, row)
            faults = [fault for fault in faults if not self.careless or fault[0] == "empty"]
            if faults:
                raise Stopped(state(at, faults[0]))
            try:
                if row[0] in ("if", "while"):
                    truth = is_true(row[1])
                elif row[0] == "keep":
                    read = amount(row[2])
                elif row[0] == "write":
                    read = amount(row[4])
                    amount(row[1:4] + (0,))
                elif row[0] == "call":
                    given = [amount(term) for term in row[4]]
            except IndexError as wrong:
                raise Stopped(state(at, ("outside", wrong.args[0])))
            yield state(at, None)
            lent.do(at, row)
            if row[0] in ("if", "while"):
                at = ways[0] if truth else ways[1]
                continue
            if row[0] == "keep":
                amounts[row[1]] = read
            elif row[0] == "move":
                places[row[1]] = place(row[2])
            elif row[0] == "write":
                names[row[1]][place(row[2:4])] = read
            elif row[0] == "lend":
                names[row[1]] = names[row[2]]
            else:
                yield from self.call(row, [names[array] for array in row[2]], [place(term) for term in row[3]], given)
            at = ways[0]
        if self.marks:
            yield mark("after")
        if first:
            rows = {told[1]: tuple(names[told[1]]) for told in function.arrays}
            yield (None, None, None, {**rows, **was}, {word: places[word] for word in function.positions},
                   {word: amounts[word] for word in function.amounts})

    def call(self, row, arrays, positions, values):
        if not self.copying:
            yield from self.function(row[1], arrays, positions, values, False)
            return
        own = [list(array) for array in arrays]
        self.places.extend(own)
        yield from self.function(row[1], own, positions, values, False)
        for told, mine, array in zip(self.program[row[1]].arrays, own, arrays):
            if told[0] == "full":
                array[:] = mine
