"""Reading texts, character by character: an error is told where a text is no longer the beginning of a right one."""

from lentcells.base.frames import LETTERS, MAX_LETTERS
from lentcells.errors import ParseError
from lentcells.logic.forms import MAX_DEPTH
from lentcells.text.forms import MAX_INSIDE

DIGITS = "0123456789"
MAX_DIGITS = 60


class Reader:
    """A text and how far it is read."""

    def __init__(self, text):
        if not isinstance(text, str):
            raise ParseError(None)
        self._text = text
        self._at = 0

    def sees(self, letters, further=0):
        """Whether the next character, or one so much further on, is one of these."""
        at = self._at + further
        return at < len(self._text) and self._text[at] in letters

    def wrong(self):
        """Raise the error that the next character is wrong."""
        raise ParseError(self._at)

    def skip(self, text):
        """Go on behind this text."""
        for letter in text:
            if not self.sees(letter):
                self.wrong()
            self._at += 1

    def end(self):
        """Raise an error if this is not the end."""
        if self._at < len(self._text):
            self.wrong()

    def _taken(self, letters, most):
        first = self._at
        while self._at - first < most and self.sees(letters):
            self._at += 1
        return self._text[first:self._at]

    def word(self):
        """A name."""
        if not self.sees(LETTERS):
            self.wrong()
        return self._taken(LETTERS, MAX_LETTERS)

    def great_number(self):
        """A number from 1 on."""
        if not self.sees(DIGITS[1:]):
            self.wrong()
        return int(self._taken(DIGITS, MAX_DIGITS))

    def integer(self):
        """A number."""
        if self.sees("-"):
            self.skip("-")
            return -self.great_number()
        if self.sees("0"):
            self.skip("0")
            return 0
        return self.great_number()

    def more(self):
        """The number behind a name or a cell."""
        if self.sees("+"):
            self.skip("+")
            return self.great_number()
        return self.integer() if self.sees("-") else 0

    def short(self):
        """A position term."""
        if not self.sees(LETTERS):
            return ("", self.integer())
        word = self.word()
        return (word, self.more())

    def amount(self):
        """A value term."""
        if not self.sees(LETTERS):
            return ("", self.integer())
        return self.amount_from(self.word())

    def amount_from(self, word):
        """A value term that begins with a name that is read already."""
        if not self.sees("["):
            return (word, self.more())
        self.skip("[")
        place = self.short()
        self.skip("]")
        return (word, *place, self.more())

    def op(self):
        """A sign that compares, with the blanks around it."""
        self.skip(" ")
        return self.op_behind()

    def op_behind(self):
        """A sign that compares, behind the blank ahead of it."""
        if self.sees("="):
            self.skip("== ")
            return "=="
        self.skip("<")
        if self.sees("="):
            self.skip("= ")
            return "<="
        self.skip(" ")
        return "<"

    def joined(self, read_one, between):
        """A list of one or more members, with this text between them."""
        found = [read_one()]
        # Nothing that can come behind a list begins like what stands between its members.
        while self.sees(between[0]):
            self.skip(between)
            found.append(read_one())
        return tuple(found)

    def listed(self, read_one, numbers, between=", "):
        """A list, which can be empty, of members that can begin with numbers."""
        if self.sees("-") and not (numbers and self.sees(DIGITS[1:], 1)):
            self.skip("-")
            return ()
        return self.joined(read_one, between)


def read_claim_in(reader, depth=MAX_DEPTH, alls=True):
    """A claim of at most this depth, where alls can be barred."""
    if reader.sees("["):
        return read_position_atom(reader)
    if not reader.sees(LETTERS):
        return read_amount_atom(reader, reader.amount())
    word = reader.word()
    if reader.sees("(") and word in ("not", "and", "or"):
        return read_joined(reader, word, depth, alls)
    if word == "all" and reader.sees(" ") and reader.sees(LETTERS, 1) and alls and depth > 1:
        return read_all(reader, depth)
    return read_amount_atom(reader, reader.amount_from(word))


def read_position_atom(reader):
    """A comparison of position terms."""
    reader.skip("[")
    one = reader.short()
    op = reader.op()
    other = reader.short()
    reader.skip("]")
    return ("pos", op, one, other)


def read_amount_atom(reader, one):
    """A comparison of value terms, of which the first one is read already."""
    op = reader.op()
    return ("val", op, one, reader.amount())


def read_joined(reader, word, depth, alls):
    """A not, and or or, behind its word."""
    if word == "not":
        if depth == 1:
            reader.wrong()
        reader.skip("(")
        part = read_claim_in(reader, depth - 1, alls)
        reader.skip(")")
        return (word, part)
    reader.skip("(")
    parts = ()
    if not reader.sees(")"):
        if depth == 1:
            reader.wrong()
        parts = reader.joined(lambda: read_claim_in(reader, depth - 1, alls), ", ")
    reader.skip(")")
    return (word, parts)


def read_all(reader, depth):
    """An all, behind its word."""
    reader.skip(" ")
    own = [reader.word()]
    if reader.sees(","):
        reader.skip(", ")
        own.append(reader.word())
    reader.skip(" (")
    guard = read_claim_in(reader, depth - 1, False)
    reader.skip(" -> ")
    body = read_claim_in(reader, depth - 1, False)
    reader.skip(")")
    return ("all", tuple(own), guard, body)


def read_rows_in(reader, inside):
    """One or more rows that stand so deep in others."""
    return reader.joined(lambda: read_row(reader, inside), "; ")


def read_block(reader, inside):
    """Rows in braces that stand so deep in others."""
    reader.skip("{ ")
    rows = ()
    if not reader.sees("}"):
        if inside > MAX_INSIDE:
            reader.wrong()
        rows = read_rows_in(reader, inside)
        reader.skip(" ")
    reader.skip("}")
    return rows


def read_row(reader, inside):
    """A row that stands so deep in others."""
    word = reader.word()
    if reader.sees("["):
        cell = read_cell(reader, word)
        reader.skip(" = ")
        return ("write", *cell, reader.amount())
    reader.skip(" ")
    if reader.sees(":"):
        reader.skip(":= ")
        return ("move", word, reader.short())
    if word not in ("if", "while", "lend", "call") or reader.sees("="):
        reader.skip("= ")
        return ("keep", word, reader.amount())
    if word == "lend":
        loan = reader.word()
        reader.skip(" = ")
        return (word, loan, reader.word())
    return read_call(reader) if word == "call" else read_branches(reader, word, inside)


def read_cell(reader, word):
    """A cell, behind the name of its array."""
    reader.skip("[")
    place = reader.short()
    reader.skip("]")
    return (word, *place)


def read_branches(reader, word, inside):
    """An if or while, behind its word and a blank."""
    condition = read_claim_in(reader)
    reader.skip(" ")
    rows = read_block(reader, inside + 1)
    if word == "while":
        return (word, condition, rows)
    reader.skip(" else ")
    return (word, condition, rows, read_block(reader, inside + 1))


def read_call(reader):
    """A call, behind its word and a blank."""
    called = reader.word()
    reader.skip("(")
    arrays = reader.listed(lambda: reader.word(), False)
    reader.skip(" | ")
    positions = reader.listed(lambda: reader.short(), True)
    reader.skip(" | ")
    amounts = reader.listed(lambda: reader.amount(), True)
    reader.skip(")")
    return ("call", called, arrays, positions, amounts)
