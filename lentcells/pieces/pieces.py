"""Pieces of functions: what they begin with, what their rows give, and their questions."""

from lentcells.decide.deciding import check_size
from lentcells.decide.follows import follows
from lentcells.errors import TooMany
from lentcells.loans.facts import function_of
from lentcells.loans.shapes import shapes_at, sound_table
from lentcells.pieces.courses import Course
from lentcells.pieces.paths import OUTER, paths_from
from lentcells.solve.questions import Question

MAX_PIECES = 64
MAX_WRITES = 4
MAX_CALLS = 2


def beginnings(program, function):
    """The pairs (start, shape) of all beginnings of pieces of a sound function, ascending."""
    table = sound_table(program, function.called)
    found = [(OUTER, ())]
    for loop in range(len(function.notes)):
        shapes = shapes_at(program, function, loop, table.state(function.while_of(loop)))
        found.extend([(loop, shape) for shape in shapes])
    return found


def pieces(program, called):
    """The tuple of all pieces of a function."""
    function = function_of(program, called)
    found = []
    for start, shape in beginnings(program, function):
        for path in paths_from(function, start, MAX_PIECES + 1):
            found.append((start, shape, path))
            if len(found) > MAX_PIECES:
                raise TooMany(MAX_PIECES)
    return tuple([Piece(program, called, start, shape, path) for start, shape, path in found])


def check_rows_on(function, path):
    """Raise TooMany if too many writes or calls stand on a path."""
    words = [function.row(number)[0] for number in path.gone]
    if words.count("write") > MAX_WRITES:
        raise TooMany(MAX_WRITES)
    if words.count("call") > MAX_CALLS:
        raise TooMany(MAX_CALLS)


def place_text(loop, outer):
    """The number of a loop, or this word for the beginning or end of a function."""
    return outer if loop == OUTER else str(loop)


class Piece:
    """A piece of a function, from its beginning or a loop to the next loop or its end; it never changes."""

    def __init__(self, program, called, start, shape, path):
        function = program[called]
        check_rows_on(function, path)
        self._program = program
        self._called = called
        self._start = start
        self._shape = shape
        self._path = path
        course = Course(program, function, start, shape, path)
        self._frame = course.piece_frame
        self._claims = course.first_claims
        self._facts = tuple(course.told_facts)
        self._asked = course.asked
        self._names = {array: course.version_of(array) for array in sorted(course.stands)}

    @property
    def program(self):
        """The program."""
        return self._program

    @property
    def called(self):
        """The name of the function."""
        return self._called

    @property
    def start(self):
        """The number of the loop at which it begins, or -1."""
        return self._start

    @property
    def stop(self):
        """The number of the loop at which it ends, or -1."""
        return self._path.last

    @property
    def shape(self):
        """The shape with which it begins."""
        return self._shape

    @property
    def answers(self):
        """The answers of the conditions that are asked on it."""
        return self._path.truths

    @property
    def trail(self):
        """The numbers of its rows."""
        return self._path.gone

    @property
    def frame(self):
        """The frame of its claims."""
        return self._frame

    @property
    def claims(self):
        """The claims with which it begins."""
        return self._claims

    @property
    def facts(self):
        """The claims, and what its rows give."""
        return self._facts

    @property
    def names(self):
        """The dict from the array names that stand for a parameter at its end to the names of their versions."""
        return {array: self._names[array] for array in self._names}

    def questions(self):
        """The tuple of the pairs (kind, question)."""
        return tuple([(asked.kind, Question(self._frame, self._facts[:asked.many] + asked.ahead, asked.wanted))
                      for asked in self._asked])

    def is_right(self):
        """Whether all questions follow."""
        found = [question for kind, question in self.questions()]
        for question in found:
            check_size(question)
        for question in found:
            if not follows(question):
                return False
        return True

    def _told(self):
        return (self._called, self._start, self._shape, self._path.truths)

    def _ends_text(self):
        start, stop = place_text(self._start, "start"), place_text(self._path.last, "end")
        return f"from {start} to {stop}"

    def __eq__(self, other):
        return isinstance(other, Piece) and self._told() == other._told() and self._program == other._program

    def __str__(self):
        return f"piece of {self._called} {self._ends_text()}: {len(self._path.gone)} rows"
