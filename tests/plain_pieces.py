"""What is so on runs of a function from its beginning, or a loop, to its next loop or its end."""

import samples
from lentcells.code.programs import Program
from lentcells.runs.runs import Run
from lentcells.world.situations import Situation


def with_contracts(maker, made):
    """A program with other random notes and contracts."""
    functions = []
    for function in made.functions:
        def some(frame):
            claims = samples.Maker(frame, maker.random)
            return tuple(claims.claim(2) for _ in range(maker.random.choice((0, 1, 2))))
        function = function.with_contract(some(function.start_frame), some(function.end_frame))
        for loop in range(len(function.notes)):
            function = function.with_notes(loop, some(function.frame))
        functions.append(function)
    return Program(tuple(functions))


class Leg:
    """What happened on a run between two loops of the first function: each part as a piece would tell it."""

    def __init__(self, start, stands, begin):
        self.start, self.stands, self.begin = start, stands, begin
        self.trail, self.answers = [], []
        # Pairs (parameter, row) of what was written, and the truths of what rows give.
        self.versions, self.truths = [], []
        # Triples (row, index, truth) of what called functions ask.
        self.asked = []
        self.stop = self.end = None


class Walker:
    """A run of a function, leg by leg; a leg is None where the run stops or takes too long."""

    def __init__(self, program, called, situation):
        self.program, self.function = program, program[called]
        self.run = Run(program, called, situation)
        self.whiles = [at for at, row in enumerate(self.function) if row[0] == "while"]
        self.names = [told[1] for told in self.function.arrays]

    def legs(self):
        """All legs, at most thirty."""
        start = -1
        for _ in range(30):
            leg = self.leg(start)
            if leg is None:
                return
            yield leg
            start = leg.stop
            if start == -1:
                return

    def loop(self):
        """The number of the loop whose while is next, -1 behind the end, or None."""
        if self.run.is_done():
            return -1
        return self.whiles.index(self.run.next_row) if self.run.next_row in self.whiles else None

    def stands(self, name):
        """The parameter for which an array name stands, or None."""
        place = self.run.place_of(name)
        return None if place is None else self.names[place]

    def leg(self, start):
        run = self.run
        loans = [] if run.is_done() else [told[1] for told in self.function.loans]
        leg = Leg(start, {name: self.stands(name) for name in loans}, run.situation)
        while self.loop() is None or (self.loop() >= 0 and leg.trail == [] and start >= 0):
            if run.fault is not None or not self.step(leg):
                return None
        leg.stop, leg.end = self.loop(), run.situation
        return leg

    def step(self, leg):
        """One row of the first function, with all that it calls."""
        run = self.run
        row, ahead = self.function.row(run.next_row), run.situation
        leg.trail.append(run.next_row)
        written = [self.stands(row[1])] if row[0] == "write" else []
        call = Call(self, row, ahead) if row[0] == "call" else None
        if call is not None:
            written = call.full
            leg.asked += [(leg.trail[-1], index, truth) for index, truth in enumerate(call.begin_truths())]
        if row[0] in ("if", "while"):
            leg.answers.append(ahead.holds(row[1]))
        depth = run.depth
        run.advance()
        while not run.is_done() and run.depth > depth:
            if run.fault is not None or len(run) > 300:
                return False
            run.advance()
        leg.versions += [(parameter, run.situation.rows[parameter]) for parameter in written]
        leg.truths += [True] * {"if": 1, "while": 1, "write": 2}.get(row[0], 0)
        if call is not None:
            leg.truths += call.end_truths(run.situation)
        return True


class Call:
    """What is so of a called function at its beginning and at its end."""

    def __init__(self, walker, row, ahead):
        self.callee = callee = walker.program[row[1]]
        self.rows = {told[1]: ahead.rows[name] for name, told in zip(row[2], callee.arrays)}
        self.stands = {told[1]: walker.stands(name) for name, told in zip(row[2], callee.arrays)}
        self.full = [self.stands[told[1]] for told in callee.arrays if told[0] == "full"]
        self.positions = {word: ahead.position_at(term) for word, term in zip(callee.positions, row[3])}
        self.amounts = {word: ahead.value_at(term) for word, term in zip(callee.amounts, row[4])}

    def begin_truths(self):
        begin = Situation(self.callee.start_frame, self.rows, self.positions, self.amounts)
        return [begin.holds(claim) for claim in self.callee.before]

    def end_truths(self, behind):
        rows = dict(self.rows)
        for told in self.callee.arrays:
            if told[0] == "full":
                rows[told[3]] = self.rows[told[1]]
                rows[told[1]] = behind.rows[self.stands[told[1]]]
        end = Situation(self.callee.end_frame, rows, self.positions, self.amounts)
        return [end.holds(claim) for claim in self.callee.after]
