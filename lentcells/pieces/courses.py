"""What the rows of a piece do with its arrays and terms, and what they give and ask."""

from lentcells.base.frames import MAX_ARRAYS, Frame
from lentcells.errors import InvalidOperation
from lentcells.logic.claims import inside_claim, is_claim
from lentcells.logic.forms import alls_in
from lentcells.logic.putting import first_fresh, put_in, put_short, put_term
from lentcells.pieces.paths import OUTER
from lentcells.solve.questions import MAX_GIVEN

LETTERS = "abcdefghijklmnopqrstuvwxyz"


def own_names_in(function):
    """The own names of all claims of a function."""
    claims = [*function.before, *function.after, *[claim for notes in function.notes for claim in notes]]
    return [word for claim in claims for every, positive in alls_in(claim, True) for word in every[1]]


def version_names(function):
    """The names that versions can have, in their order."""
    own = own_names_in(function)
    words = [f"w{letter}" for letter in LETTERS]
    return [word for word in words if function.frame.is_fresh(word) and word not in own]


def full_arguments(program, row):
    """The array names that a call hands over fully."""
    return [array for array, told in zip(row[2], program[row[1]].arrays) if told[0] == "full"]


def written_by(program, row):
    """The array names that a row writes, or may write."""
    if row[0] == "write":
        return [row[1]]
    return full_arguments(program, row) if row[0] == "call" else []


def read_cells(row):
    """The pairs of each cell that a row asks and the claims that are true where it is asked, in order."""
    word = row[0]
    if word in ("if", "while"):
        return cells_of_condition(row[1], ())
    if word == "write":
        return [(term, ()) for term in (row[4], (*row[1:4], 0)) if len(term) == 4]
    terms = row[4] if word == "call" else row[2:]
    return [(term, ()) for term in terms if word in ("call", "keep") and len(term) == 4]


def cells_of_condition(condition, ahead):
    """The pairs of the cells of a condition, where these claims are true already."""
    word = condition[0]
    if word == "pos":
        return []
    if word == "val":
        return [(term, ahead) for term in condition[2:] if len(term) == 4]
    if word == "not":
        return cells_of_condition(condition[1], ahead)
    found = []
    for part in condition[1]:
        found.extend(cells_of_condition(part, ahead))
        # A part is asked only if those ahead of it do not decide.
        ahead = (*ahead, part if word == "and" else ("not", part))
    return found


class Asked:
    """A question of a piece: its kind, how many facts are given, further given claims, and what is wanted."""

    def __init__(self, kind, many, ahead, wanted):
        self.kind = kind
        self.many = many
        self.ahead = ahead
        self.wanted = wanted


class Course:
    """The arrays for which names stand on a piece, the terms that locals have been given, facts and questions."""

    def __init__(self, program, function, start, shape, path):
        self._program = program
        self._function = function
        self._begins = start == OUTER
        # For each array name its parameter, and for each parameter its newest version.
        self.stands = {**{told[1]: told[1] for told in function.arrays}, **{loan: array for loan, array in shape}}
        self.newest = {told[1]: told[1] for told in function.arrays}
        locals_there = [*function.places, *function.numbers]
        self._terms = {word: ("", 0) for word in locals_there} if self._begins else {}
        self._versions = version_names(function)
        self.piece_frame = self._made_frame([function.row(number) for number in path.gone])
        claims = function.before if self._begins else function.notes[start]
        self.first_claims = tuple([self._put(claim) for claim in claims])
        self.told_facts = list(self.first_claims)
        self.asked = []
        self._check(self.first_claims)
        self._go(path)

    def _made_frame(self, rows):
        function = self._function
        stands = {name: parameter for name, parameter in self.stands.items()}
        parameters = []
        for row in rows:
            if row[0] == "lend":
                stands[row[1]] = stands[row[2]]
            parameters.extend([stands[array] for array in written_by(self._program, row)])
        arrays = function.start_frame.arrays if self._begins else function.end_frame.arrays
        if len(arrays) + len(parameters) > MAX_ARRAYS or len(parameters) > len(self._versions):
            raise InvalidOperation("a piece has too many arrays")
        lengths = [function.frame.length_of(parameter) for parameter in parameters]
        pairs = tuple(list(zip(self._versions, lengths)))
        return Frame(arrays + pairs, function.frame.positions, function.frame.amounts)

    def version_of(self, array):
        """The newest version of the parameter for which an array name stands."""
        return self.newest[self.stands[array]]

    def _array_map(self):
        found = {array: self.version_of(array) for array in self.stands}
        if self._begins:
            for told in self._function.arrays:
                if told[0] == "full":
                    found[told[3]] = told[1]
        return found

    def _put(self, claim):
        return put_in(claim, self.piece_frame, self._array_map(), self._terms)

    def _put_position(self, term):
        return put_short(term, self._terms)

    def _put_amount(self, term):
        return put_term(term, self._array_map(), self._terms)

    def _check(self, claims):
        if not all([is_claim(self.piece_frame, claim) for claim in claims]):
            raise InvalidOperation("a question of a piece has a claim that is none")

    def _give(self, claims):
        self._check(claims)
        self.told_facts.extend(claims)

    def _ask(self, kind, ahead, wanted):
        self._check((*ahead, wanted))
        if len(self.told_facts) + len(ahead) > MAX_GIVEN:
            raise InvalidOperation("a question of a piece has too many given claims")
        self.asked.append(Asked(kind, len(self.told_facts), tuple(ahead), wanted))

    def _go(self, path):
        answers = list(path.truths)
        for number in path.gone:
            row = self._function.row(number)
            self._ask_inside(number, row)
            if row[0] in ("if", "while"):
                condition = self._put(row[1])
                self._give((condition if answers.pop(0) else ("not", condition),))
            else:
                self._do(number, row)
        kind = "after" if path.last == OUTER else "note"
        for index, claim in enumerate(self._function.after if kind == "after" else self._function.notes[path.last]):
            self._ask((kind, index), (), self._put(claim))

    def _ask_inside(self, number, row):
        for cell, ahead in read_cells(row):
            array, word, shift, more = self._put_amount(cell)
            wanted = inside_claim(self.piece_frame, array, (word, shift))
            self._ask(("inside", number), [self._put(claim) for claim in ahead], wanted)

    def _do(self, number, row):
        word = row[0]
        if word == "move":
            self._terms = {**self._terms, row[1]: self._put_position(row[2])}
        elif word == "keep":
            self._terms = {**self._terms, row[1]: self._put_amount(row[2])}
        elif word == "lend":
            self.stands[row[1]] = self.stands[row[2]]
        elif word == "write":
            self._write(row)
        else:
            self._call(number, row)

    def _new_version(self, array):
        self.newest[self.stands[array]] = self._versions.pop(0)
        return self.version_of(array)

    def _write(self, row):
        place, shift = self._put_position(row[2:4])
        content = self._put_amount(row[4])
        old = self.version_of(row[1])
        new = self._new_version(row[1])
        own = self._own_name()
        beside = ("or", (("pos", "<=", (own, 0), (place, shift - 1)), ("pos", "<=", (place, shift + 1), (own, 0))))
        same = ("val", "==", (new, own, 0, 0), (old, own, 0, 0))
        self._give((("val", "==", (new, place, shift, 0), content), ("all", (own,), beside, same)))

    def _own_name(self):
        # No name of the function can be one: not those of loans either, which the frame of the piece has not.
        return first_fresh(self._function.frame, [array for array, length in self.piece_frame.arrays])

    def _call(self, number, row):
        callee = self._program[row[1]]
        terms = {word: self._put_position(term) for word, term in zip(callee.positions, row[3])}
        for word, term in zip(callee.amounts, row[4]):
            terms[word] = self._put_amount(term)
        for told, array in zip(callee.arrays, row[2]):
            terms[told[2]] = (self._function.frame.length_of(array), 0)
        arrays = {told[1]: self.version_of(array) for told, array in zip(callee.arrays, row[2])}
        for index, claim in enumerate(callee.before):
            self._ask(("before", number, index), (), put_in(claim, self.piece_frame, arrays, terms))
        for told, array in zip(callee.arrays, row[2]):
            if told[0] == "full":
                arrays[told[3]] = arrays[told[1]]
                arrays[told[1]] = self._new_version(array)
        self._give(tuple([put_in(claim, self.piece_frame, arrays, terms) for claim in callee.after]))
