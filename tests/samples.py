"""Values and random makers that several tests use."""

import itertools

from lentcells.base.frames import Frame
from lentcells.logic.claims import replaced
from lentcells.solve.questions import Question
from lentcells.world.situations import Situation

FRAME = Frame((("a", "n"),), ("i", "j"), ("x",))
UPTO = ("all", ("k",), ("and", (("pos", "<=", ("", 0), ("k", 0)), ("pos", "<=", ("k", 0), ("i", 0)))),
        ("val", "<=", ("a", "k", 0, 0), ("x", 0)))
SHOWN = Situation(FRAME, {"a": (4, 0, 7)}, {"i": 1, "j": 2}, {"x": 5})
NEXT = Question(FRAME, (UPTO, ("val", "<=", ("a", "i", 1, 0), ("x", 0))), replaced(FRAME, UPTO, {"i": ("i", 1)}))
BROKEN = Question(FRAME, (UPTO,), replaced(FRAME, UPTO, {"i": ("i", 1)}))
# Two arrays of one length, and one of another length.
WIDE = Frame((("a", "n"), ("b", "n"), ("c", "m")), ("i", "j"), ("x", "y"))

SIXTY = 10 ** 60 - 1
LONG = 10 ** 60
# Values that are neither a name, nor a term, nor a claim, nor anything else but themselves.
JUNK = (None, True, False, 0, 1, -1, LONG, "", "A", "a b", "a\n", "abcdefghi", "*1", (), [], {}, ("a",), ["a"],
        {"a": 1}, {1: "a"}, (None,), ((),), ("all",), ("pos", "<="), ("not",), ("and", []), FRAME, SHOWN, NEXT)


def nested(depth):
    """A claim of this depth that is made of nots."""
    claim = ("pos", "<=", ("i", 0), ("j", 0))
    for _ in range(depth - 1):
        claim = ("not", claim)
    return claim


def deep_junk(depth=40):
    """A tuple that is nested so deep."""
    value = ()
    for _ in range(depth):
        value = ("and", (value,))
    return value


def with_trues(value):
    """All values in which one 1 is replaced by True, or one 0 by False."""
    if isinstance(value, int) and not isinstance(value, bool) and value in (0, 1):
        return [value == 1]
    if not isinstance(value, tuple):
        return []
    return [value[:at] + (made,) + value[at + 1:] for at, part in enumerate(value) for made in with_trues(part)]


def with_lists(value):
    """All values in which one tuple is replaced by a list."""
    if not isinstance(value, tuple):
        return []
    inner = [value[:at] + (made,) + value[at + 1:] for at, part in enumerate(value) for made in with_lists(part)]
    return [list(value), *inner]


class Maker:
    """Random claims and situations for a frame."""

    def __init__(self, frame, random, reach=2):
        self.frame, self.random, self.reach = frame, random, reach

    def number(self):
        return self.random.randint(-self.reach, self.reach)

    def term(self, own=()):
        words = ("",) + self.frame.positions + self.frame.lengths
        word = self.random.choice(words + own * 3)
        return (word, 0 if word in own else self.number())

    def value(self, own=()):
        if len(self.frame.arrays) == 0 or self.random.random() < 0.4:
            return (self.random.choice(("",) + self.frame.amounts), self.number())
        return (self.random.choice(self.frame.arrays)[0], *self.term(own), self.random.choice((0, 0, 1)))

    def atom(self):
        op = self.random.choice(("<=", "<", "=="))
        if self.random.random() < 0.4:
            return ("pos", op, self.term(), self.term())
        return ("val", op, self.value(), self.value())

    def guard(self, own, depth):
        if depth == 1 or self.random.random() < 0.3:
            pair = [(self.random.choice(own), 0), self.term(own)]
            self.random.shuffle(pair)
            return ("pos", self.random.choice(("<=", "<=", "==")), *pair)
        return self.joined(("and", "and", "or"), lambda: self.guard(own, depth - 1))

    def body(self, own, depth):
        if depth == 1 or self.random.random() < 0.4:
            return ("val", self.random.choice(("<=", "<", "==")), self.value(own), self.value(own))
        if self.random.random() < 0.3:
            return ("not", self.body(own, depth - 1))
        return self.joined(("and", "or"), lambda: self.body(own, depth - 1))

    def joined(self, words, make):
        return (self.random.choice(words), tuple(make() for _ in range(self.random.choice((0, 1, 2, 2, 3)))))

    def all(self):
        own = self.random.choice((("k",), ("k",), ("p", "q")))
        return ("all", own, self.guard(own, 3), self.body(own, 2))

    def claim(self, depth=3):
        chance = self.random.random()
        if depth == 1 or chance < 0.2:
            return self.atom()
        if chance < 0.6:
            return self.all()
        if chance < 0.75:
            return ("not", self.claim(depth - 1))
        return self.joined(("and", "or"), lambda: self.claim(depth - 1))

    def situation(self, most=3, far=4):
        lengths = {length: self.random.randint(0, most) for length in self.frame.lengths}
        rows = {array: tuple(self.number() for _ in range(lengths[length])) for array, length in self.frame.arrays}
        positions = {word: self.random.randint(-far, far) for word in self.frame.positions}
        return Situation(self.frame, rows, positions, {word: self.number() for word in self.frame.amounts})


def plain_truth(situation, claim, own=None):
    """Whether a claim is true, with alls looked at for all positions that could matter, one by one."""
    own = {} if own is None else own
    word = claim[0]
    if word in ("pos", "val"):
        one, other = [plain_number(situation, word, term, own) for term in claim[2:]]
        return one <= other if claim[1] == "<=" else one < other if claim[1] == "<" else one == other
    if word == "not":
        return not plain_truth(situation, claim[1], own)
    if word in ("and", "or"):
        return (all if word == "and" else any)(plain_truth(situation, part, own) for part in claim[1])
    return plain_failure(situation, claim, 3) is None


def plain_failure(situation, claim, beyond=0):
    """The first tuple for which an all is false, from so far ahead of its range to so far beyond."""
    bounds = [-1, *situation.lengths.values()]
    for term in guard_terms_of(claim[2]):
        if term[0] not in claim[1]:
            bounds.append(plain_number(situation, "pos", term, {}))
    spots = range(min(bounds) - beyond, max(bounds) + beyond + 1)
    for at in itertools.product(spots, repeat=len(claim[1])):
        own = dict(zip(claim[1], at))
        if plain_truth(situation, claim[2], own) and not plain_truth(situation, claim[3], own):
            return at
    return None


def guard_terms_of(guard):
    """All position terms of a guard."""
    if guard[0] == "pos":
        return list(guard[2:])
    return [term for part in guard[1] for term in guard_terms_of(part)]


def plain_number(situation, kind, term, own):
    """What a term is."""
    if len(term) == 4:
        at = plain_number(situation, "pos", term[1:3], own)
        row = situation.rows[term[0]]
        return (row[at] if 0 <= at < len(row) else 0) + term[3]
    numbers = {**situation.positions, **situation.lengths, **own} if kind == "pos" else situation.amounts
    return (0 if term[0] == "" else numbers[term[0]]) + term[1]
