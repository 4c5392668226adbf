"""Functions and programs for tests: those of the document, random ones, and plain readings of loans and runs."""

import random

from lentcells.code.functions import Function
from lentcells.code.programs import Program
from lentcells.world.situations import Situation

UP = ("pos", "<", ("i", 0), ("n", 0))
DONE = ("all", ("k",), ("and", (("pos", "<=", ("", 0), ("k", 0)), ("pos", "<=", ("k", 0), ("i", -1)))),
        ("val", "==", ("a", "k", 0, 0), ("x", 0)))
SPAN = (("pos", "<=", ("", 0), ("i", 0)), ("pos", "<=", ("i", 0), ("n", 0)))
ALL = ("all", ("k",), ("and", (("pos", "<=", ("", 0), ("k", 0)), ("pos", "<=", ("k", 0), ("n", -1)))),
       ("val", "==", ("a", "k", 0, 0), ("x", 0)))
FILL = Function("fill", arrays=(("full", "a", "n", "old"),), values=("x",), places=("i",),
                rows=(("while", UP, (("write", "a", "i", 0, ("x", 0)), ("move", "i", ("i", 1)))),),
                notes=((DONE, *SPAN),), after=(ALL,))
TWICE = Function("twice", arrays=(("full", "b", "m", "was"), ("look", "c", "m")), loans=(("full", "r", "m"),),
                 rows=(("lend", "r", "b"), ("call", "fill", ("r",), (), (("", 7),)),
                       ("if", ("pos", "<", ("", 0), ("m", 0)), (("write", "b", "", 0, ("c", "", 0, 0)),), ())))
BOTH = Program((TWICE, FILL))
ROWS = (("lend", "r", "p"),
        ("while", ("pos", "<", ("i", 0), ("n", 0)),
         (("lend", "s", "r"), ("write", "r", "i", 0, ("s", "i", 0, 0)), ("move", "i", ("i", 1)))))
LENT = Program((Function("f", arrays=(("full", "p", "n", "w"),), loans=(("full", "r", "n"), ("look", "s", "n")),
                         places=("i",), rows=ROWS, notes=((),)),))
TWO = Function("two", arrays=(("full", "a", "n", "aa"), ("full", "b", "n", "bb")),
               rows=(("write", "a", "", 0, ("", 1)), ("write", "b", "", 1, ("", 2))))
OUTER = Function("twice", arrays=(("full", "c", "m", "cc"),), loans=(("full", "r", "m"),),
                 rows=(("lend", "r", "c"), ("call", "two", ("r", "c"), (), ())))
SHARED = Program((TWO, OUTER))
TRUE, FALSE = ("and", ()), ("or", ())


def one_function(**passed):
    """A program of a single function f."""
    return Program((Function("f", **passed),))


class Maker:
    """Random programs. Functions are f, g, .., with the lengths n and m, and arrays of either."""

    def __init__(self, seed):
        self.random = random.Random(seed)

    def chance(self, part):
        return self.random.random() < part

    def heading(self, called, at):
        """What a function is made of but for its rows and notes."""
        arrays = []
        for place in range(self.random.choice((1, 2, 2, 3))):
            name, length = f"{called}{'abc'[place]}", self.random.choice(("n", "n", "m"))
            arrays.append(("full", name, length, f"w{name}") if self.chance(0.7) else ("look", name, length))
        lengths = [told[2] for told in arrays]
        loans = tuple((self.random.choice(("full", "look")), loan, self.random.choice(lengths))
                      for loan in ("r", "s", "t")[:self.random.choice((0, 1, 2, 3, 3))])
        return {"arrays": tuple(arrays), "positions": ("i",)[:at % 2], "values": ("x",)[:at // 2 % 2],
                "loans": loans, "places": ("j",), "numbers": ("y",)}

    def program(self, many=3, rows=8):
        """A program of so many functions, each with about so many rows; any one can call any one."""
        self.headings = {called: self.heading(called, at) for at, called in enumerate("fgh"[:many])}
        return Program(tuple(self.function(called, rows) for called in self.headings))

    def function(self, called, rows):
        """A function with the heading that was made."""
        self.told = self.headings[called]
        self.left = self.random.randint(0, rows)
        self.loops = 0
        made = self.first_lends() + self.rows(0)
        whiles = self.loops
        notes = tuple(tuple(self.note() for _ in range(self.random.choice((0, 0, 1)))) for _ in range(whiles))
        return Function(called, **self.told, rows=made, notes=notes)

    def first_lends(self):
        """Often all loans get a parameter first, so that fewer functions have faults."""
        if self.chance(0.4):
            return ()
        made = []
        for way, loan, length in self.told["loans"]:
            found = [told[1] for told in self.told["arrays"] if told[2] == length and (way == "look" or told[0] == way)]
            if found:
                made.append(("lend", loan, self.random.choice(found)))
        return tuple(made)

    def array(self, ways=("full", "look"), length=None):
        """An array name with one of these ways, or None."""
        found = [told[1] for told in self.told["arrays"] + self.told["loans"]
                 if told[0] in ways and length in (None, told[2])]
        return self.random.choice(found) if found else None

    def term(self):
        words = ("", "j") + self.told["positions"] + tuple(told[2] for told in self.told["arrays"])
        return (self.random.choice(words), self.random.choice((-1, 0, 0, 1)))

    def amount(self):
        if self.chance(0.4):
            return (self.random.choice(("", "y") + self.told["values"]), self.random.choice((-1, 0, 1)))
        return (self.array(), *self.near(), self.random.choice((0, 1)))

    def near(self):
        """A position term that is rarely outside."""
        return self.random.choice((("", 0), ("", 0), ("", 1), ("j", 0)))

    def atom(self):
        if self.chance(0.5):
            return ("pos", self.random.choice(("<=", "<", "==")), self.term(), self.term())
        return ("val", self.random.choice(("<=", "<", "==")), self.amount(), self.amount())

    def note(self):
        return ("not", self.atom())

    def condition(self):
        return self.random.choice((self.atom, lambda: ("and", (self.atom(), self.atom())),
                                   lambda: ("or", (self.atom(), ("not", self.atom())))))()

    def rows(self, inside):
        made = []
        while self.left > 0 and (inside == 0 or self.chance(0.7)):
            self.left -= 1
            row = self.row(inside)
            if row is not None:
                made.append(row)
        return tuple(made)

    def row(self, inside):
        word = self.random.choice(("move", "keep", "write", "lend", "lend", "lend", "call", "if", "while"))
        if word == "move":
            return (word, "j", self.term())
        if word == "keep":
            return (word, "y", self.amount())
        if word == "write":
            array = self.array(("full",))
            return None if array is None else (word, array, *self.near(), self.amount())
        if word == "lend":
            return self.lend()
        if word == "call":
            return self.call()
        if inside == 4 or word == "while" and self.loops == 4:
            return None
        if word == "if":
            return (word, self.condition(), self.rows(inside + 1), self.rows(inside + 1))
        self.loops += 1
        return (word, self.condition(), self.rows(inside + 1))

    def lend(self):
        if not self.told["loans"]:
            return None
        way, loan, length = self.random.choice(self.told["loans"])
        array = self.array(("full",) if way == "full" else ("full", "look"), length)
        return None if array in (None, loan) else ("lend", loan, array)

    def call(self):
        called = self.random.choice(list(self.headings))
        heading = self.headings[called]
        lengths = {told[2]: self.random.choice(self.told["arrays"])[2] for told in heading["arrays"]}
        arrays = tuple(self.array(("full",) if told[0] == "full" else ("full", "look"), lengths[told[2]])
                       for told in heading["arrays"])
        if None in arrays:
            return None
        return ("call", called, arrays, tuple(self.term() for _ in heading["positions"]),
                tuple(self.amount() for _ in heading["values"]))

    def situation(self, frame):
        """A situation of a frame, with rows of some cells."""
        lengths = {length: self.random.randint(0, 3) for length in frame.lengths}
        rows = {array: tuple(self.random.randint(-2, 2) for _ in range(lengths[length]))
                for array, length in frame.arrays}
        return Situation(frame, rows, {word: self.random.randint(-1, 2) for word in frame.positions},
                         {word: self.random.randint(-2, 2) for word in frame.amounts})

    def walk(self, program, called, most):
        """A walk of at most so many rows, by the rows as they stand."""
        rows = plain_rows(program[called])
        made, at = [], 0
        for _ in range(self.random.randint(0, most)):
            if at == len(rows):
                break
            made.append(at)
            at = self.random.choice(rows[at][1])
        return tuple(made)


def plain_rows(function):
    """The list of the pairs (row, rows that can come behind it) of a function, the end as the number behind the last.

    Each condition has first what comes if it is true, and then what comes if it is false.
    """
    flat = []

    def collect(rows):
        for row in rows:
            flat.append(row)
            for part in row[2:] if row[0] in ("if", "while") else ():
                collect(part)

    collect(function.rows)
    found = [None] * len(flat)
    place = iter(range(len(flat)))

    def visit(rows, behind):
        numbers = []
        for row in rows:
            number = next(place)
            numbers.append((number, row))
            if row[0] == "while":
                first = visit(row[2], number)
                found[number] = [number if first is None else first, None]
            elif row[0] == "if":
                found[number] = [visit(row[2], ("behind", number)), visit(row[3], ("behind", number))]
            else:
                found[number] = [None]
        for at, (number, row) in enumerate(numbers):
            after = numbers[at + 1][0] if at + 1 < len(numbers) else behind
            found[number] = [after if way is None else way for way in found[number]]
            for other in range(len(found)):
                if found[other] is not None:
                    found[other] = [after if way == ("behind", number) else way for way in found[other]]
        return numbers[0][0] if numbers else None

    visit(function.rows, len(flat))
    return list(zip(flat, found))


class PlainLoans:
    """The loans of a walk by the words of the document: what each has got, whether it has ended, what it reaches into."""

    def __init__(self, program, called):
        self.program, self.function = program, program[called]
        self.ways = {told[1]: told[0] for told in self.function.arrays + self.function.loans}
        self.loans = [told[1] for told in self.function.loans]
        self.full = {name: False for name in self.loans}
        self.ended = {name: False for name in self.loans}
        self.into = {name: set() for name in self.loans}

    def state(self):
        facts = [("held" if self.full[name] else "empty", name) for name in self.loans]
        facts += [("ended", name) for name in self.loans if self.ended[name]]
        return tuple(sorted(facts + [("into", name, other) for name in self.loans for other in self.into[name]]))

    def use(self, way, name):
        """The faults of a use, which ends what reaches into the array."""
        faults = self.gone(name)
        for other in self.into:
            if name in self.into[other] and (way == "full" or self.ways[other] == "full"):
                self.ended[other] = True
        return faults

    def gone(self, name):
        if name not in self.loans:
            return []
        return [("empty", name)] * (not self.full[name]) + [("ended", name)] * self.ended[name]

    def lend(self, loan, name):
        was_full = name not in self.loans or self.full[name]
        reached = set(self.into.get(name, ()))
        for other in self.into:
            self.into[other].discard(loan)
        self.full[loan], self.ended[loan] = was_full, False
        self.into[loan] = (reached | {name} if was_full else reached) - {loan}

    def do(self, number, row):
        """The faults of a row, in order and each once, and what it does with the loans."""
        faults = []
        if row[0] == "while":
            loop = [at for at, other in enumerate(plain_rows(self.function)) if other[0][0] == "while"].index(number)
            words = sorted(set(word for claim in self.function.notes[loop] for word in words_in(claim)))
            faults += [fault for word in words for fault in self.gone(word)]
        for word in cells_in(row):
            faults += self.use("look", word)
        if row[0] == "write":
            faults += self.use("full", row[1])
        if row[0] == "lend":
            faults += self.use(self.ways[row[1]], row[2])
            self.lend(row[1], row[2])
        if row[0] == "call":
            faults += self.call(row)
        return list(dict.fromkeys(faults))

    def call(self, row):
        """A call lends its arrays to nameless loans, and then uses all of them together."""
        faults = []
        ahead = {name: (self.full[name], set(self.into[name])) for name in self.loans}
        nameless = {}
        for at, (name, told) in enumerate(zip(row[2], self.program[row[1]].arrays)):
            faults += self.use(told[0], name)
            # The way of the use ends nameless loans like named ones.
            for other, (way, reached) in nameless.items():
                if name in reached and "full" in (told[0], way):
                    nameless[other] = (way, reached | {"*"})
            nameless[at] = (told[0], {name} | (ahead[name][1] if name in ahead else set()))
        return faults + [("argument", at) for at, (way, reached) in nameless.items() if "*" in reached]


def words_in(value):
    """All strings in a tuple of tuples that can be names of arrays."""
    if isinstance(value, str):
        return [value]
    return [word for part in value for word in words_in(part)] if isinstance(value, tuple) else []


def cells_in(row):
    """The arrays of the cells that stand in a row, in the order of the text."""
    if row[0] in ("if", "while"):
        return cells_of_terms(row[1])
    if row[0] == "call":
        return [term[0] for term in row[4] if len(term) == 4]
    return [row[-1][0]] if row[0] in ("keep", "write") and len(row[-1]) == 4 else []


def cells_of_terms(claim):
    if claim[0] == "val":
        return [term[0] for term in claim[2:] if len(term) == 4]
    if claim[0] == "not":
        return cells_of_terms(claim[1])
    return [word for part in claim[1] for word in cells_of_terms(part)] if claim[0] in ("and", "or") else []
