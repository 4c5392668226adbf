"""Runs: what the rows of functions do, step by step."""

from lentcells.base.integers import check_undo, is_index
from lentcells.errors import InvalidNumber, InvalidOperation, InvalidSituation, UnknownName
from lentcells.loans.facts import function_of
from lentcells.runs.asking import asked, outside_at
from lentcells.runs.levels import Lookup, begun
from lentcells.world.situations import Situation, loose_situation

MOST = 10000


class Done:
    """A step that was done: its function and row, the level ahead of it, and what it changed of places."""

    def __init__(self, level, many):
        self.pair = (level.function.called, level.number)
        self.level = level
        self.many = many
        self.changed = []


class Run:
    """A run of a program that begins with one of its functions."""

    def __init__(self, program, called, situation, *, copying=False, careless=False):
        function = function_of(program, called)
        if not isinstance(situation, Situation) or situation.frame != function.start_frame:
            raise InvalidSituation("this is no situation of the start frame")
        if not isinstance(copying, bool) or not isinstance(careless, bool):
            raise InvalidOperation("this is no boolean")
        self._program = program
        self._function = function
        self._beginning = situation
        self._copying = copying
        self._careless = careless
        self._lookup = Lookup(program)
        self._history = []
        self._events = []
        rows = situation.rows
        self._rows = [rows[told[1]] for told in function.arrays]
        positions = [situation.positions[word] for word in function.positions]
        amounts = [situation.amounts[word] for word in function.amounts]
        self._top = begun(function, None, list(range(len(self._rows))), positions, amounts, self._rows)
        self._events.append(("before", self._top))
        self._last = self._top
        self._leave_levels()
        self._rest()

    def _leave_levels(self):
        while self._top is not None and self._top.number == len(self._top.function):
            for own, spot in self._top.back:
                self._put(spot, self._rows[own])
            self._events.append(("after", self._top))
            self._last = self._top
            self._top = self._top.caller

    def _put(self, spot, row):
        self._history[-1].changed.append((spot, self._rows[spot]))
        self._rows[spot] = row

    def _rest(self):
        self._fault = self._found_fault()
        self._situation = self._made_situation()

    def _found_fault(self):
        if self._top is None:
            return None
        faults = self._lookup.look(self._top)[0]
        chosen = [fault for fault in faults if not self._careless or fault[0] == "empty"]
        if len(chosen) > 0:
            return chosen[0]
        row = self._top.function.row(self._top.number)
        array = outside_at(self._top.meaning(self._rows), row)
        return None if array is None else ("outside", array)

    def _made_situation(self):
        level = self._last if self._top is None else self._top
        frame = level.function.end_frame if self._top is None else level.function.frame
        rows = {**level.was_rows}
        for array, length in frame.arrays:
            if array not in rows:
                rows[array] = level.row_of(self._rows, array)
        positions = {word: level.position_of[word] for word in frame.positions}
        return loose_situation(frame, rows, positions, {word: level.amount_of[word] for word in frame.amounts})

    @property
    def program(self):
        """The program."""
        return self._program

    @property
    def inner(self):
        """The name of the function whose row is next, or None."""
        return None if self._top is None else self._top.function.called

    @property
    def next_row(self):
        """The number of the row that is next, or None."""
        return None if self._top is None else self._top.number

    @property
    def fault(self):
        """The fault of the next row, or None."""
        return self._fault

    @property
    def depth(self):
        """How many functions have begun and not ended."""
        return 0 if self._top is None else self._top.deep

    @property
    def steps(self):
        """How many steps were done."""
        return len(self._history)

    @property
    def trail(self):
        """The pairs (function, row) of all rows that were done, in order."""
        return tuple([done.pair for done in self._history])

    @property
    def situation(self):
        """The situation of now, of the frame of the inner function, or of the end frame of the first one."""
        return self._situation

    def is_done(self):
        """Whether the first function has ended."""
        return self._top is None

    def advance(self):
        """Do a step, and return its function and row."""
        if self._top is None or self._fault is not None:
            raise InvalidOperation("no step can be done")
        self._step()
        self._rest()
        return self._history[-1].pair

    def _step(self):
        level = self._top
        self._history.append(Done(level, len(self._rows)))
        self._events = []
        self._top = self._behind(level)
        self._leave_levels()

    def _behind(self, level):
        row = level.function.row(level.number)
        ways = level.function.ways_behind(level.number)
        meaning = level.meaning(self._rows)
        word = row[0]
        if word in ("if", "while") and not asked(meaning, row[1])[0]:
            ways = ways[1:]
        made = level.next_level(ways[0], self._lookup.look(level)[1])
        if word == "move":
            made.position_of = {**level.position_of, row[1]: meaning.position(row[2])}
        elif word == "keep":
            made.amount_of = {**level.amount_of, row[1]: meaning.content(row[2])}
        elif word == "write":
            spot, at = level.spot_of[row[1]], meaning.position(row[2:4])
            held = self._rows[spot]
            self._put(spot, (*held[:at], meaning.content(row[4]), *held[at + 1:]))
        elif word == "lend":
            made.spot_of = {**level.spot_of, row[1]: level.spot_of[row[2]]}
        return self._entered(made, row, meaning) if word == "call" else made

    def _entered(self, level, row, meaning):
        function = self._program[row[1]]
        spots = [level.spot_of[array] for array in row[2]]
        back = []
        if self._copying:
            first = len(self._rows)
            copies = [self._rows[spot] for spot in spots]
            self._rows.extend(copies)
            own = list(range(first, len(self._rows)))
            back = [pair for pair, told in zip(list(zip(own, spots)), function.arrays) if told[0] == "full"]
            spots = own
        positions = [meaning.position(term) for term in row[3]]
        amounts = [meaning.content(term) for term in row[4]]
        made = begun(function, level, spots, positions, amounts, self._rows)
        made.back = tuple(back)
        self._events.append(("before", made))
        return made

    def advance_on(self, *, most=100):
        """Do steps as long as possible, at most so many, and return how many."""
        if not is_index(most, MOST + 1):
            raise InvalidNumber(most)
        many = 0
        while many < most and self._top is not None and self._fault is None:
            self._step()
            self._fault = self._found_fault()
            many += 1
        self._rest()
        return many

    def place_of(self, name):
        """The number of the place for which an array name of the inner function stands, or None."""
        if self._top is None:
            raise InvalidOperation("the run is done")
        if not isinstance(name, str) or name not in self._top.spot_of:
            raise UnknownName(name)
        return self._top.spot_of[name]

    def false_claim(self):
        """The first claim of a sharing run that is false now: of a function that began or ended in the last step.

        It is told as by `first_break`. Where a while is next whose notes have no faults, they are looked at, too.
        """
        for word, level in self._events:
            claims = level.function.before if word == "before" else level.function.after
            place = level.first_false(self._rows, claims)
            if place is not None:
                return (word, level.function.called, place)
        return None if self._top is None else self._top.false_note(self._rows)

    def undo(self, *, many=1):
        """Take the last steps back, and return their functions and rows, the last one first."""
        check_undo(many, len(self._history))
        self._events = []
        gone = []
        for _ in range(many):
            done = self._history.pop()
            for spot, row in reversed(list(done.changed)):
                self._rows[spot] = row
            if len(self._rows) > done.many:
                self._rows = self._rows[:done.many]
            self._top = done.level
            gone.append(done.pair)
        self._rest()
        return tuple(gone)

    def twin(self):
        """An equal run that goes on by itself."""
        made = Run(self._program, self._function.called, self._beginning, copying=self._copying,
                   careless=self._careless)
        made._rows = list(self._rows)
        made._history = list(self._history)
        made._events = list(self._events)
        made._top = self._top
        made._last = self._last
        made._rest()
        return made

    def __len__(self):
        return len(self._history)

    def _told(self):
        return (self._function.called, self._copying, self._careless, len(self._history))

    def __eq__(self, other):
        if not isinstance(other, Run) or self._told() != other._told():
            return False
        return self._program == other._program and self._beginning == other._beginning

    def _where(self):
        if self._top is None:
            return "run: done, "
        where = f"run in {self._top.function.called} at {self._top.number}: "
        return where if self._fault is None else f"{where}fault, "

    def __str__(self):
        return f"{self._where()}{len(self._history)} steps"
