"""The grammar of texts as the document tells it, and how far a text is the beginning of one by it."""

import functools
import string

LETTERS, DIGITS = set(string.ascii_lowercase), set(string.digits)


def chars(text):
    """The symbols of a fixed text."""
    return [("char", letter) for letter in text]


def listed(one, between):
    """A list of at least one member."""
    return ("listed", one, between)


@functools.lru_cache(maxsize=None)
def rules(symbol):
    """The alternatives of a symbol, each a tuple of symbols."""
    made = RULES[symbol[0]](*symbol[1:])
    return [tuple(part if isinstance(part, tuple) else ("char", part) for part in alternative) for alternative in made]


def name(rest=8):
    letter = ("some", "letters")
    return [[letter]] + ([[letter, ("name", rest - 1)]] if rest > 1 else [])


def great():
    return [[("some", "great")], [("some", "great"), ("digits", 59)]]


def digits(rest):
    digit = ("some", "digits")
    return [[digit]] + ([[digit, ("digits", rest - 1)]] if rest > 1 else [])


def integer():
    return [["0"], ["-", ("great",)], [("great",)]]


def with_more(symbol):
    return [[symbol], [symbol, "+", ("great",)], [symbol, "-", ("great",)]]


def short():
    return with_more(("name", 8)) + [[("integer",)]]


def cell():
    return [[("name", 8), "[", ("short",), "]"]]


def amount():
    return with_more(("name", 8)) + with_more(("cell",)) + [[("integer",)]]


def op():
    return [chars(" < "), chars(" <= "), chars(" == ")]


def claim(depth, alls):
    found = [["[", ("short",), ("op",), ("short",), "]"], [("amount",), ("op",), ("amount",)], chars("and()"), chars("or()")]
    if depth > 1:
        inner = ("claim", depth - 1, alls)
        found += [[*chars("not("), inner, ")"]] + [[*chars(word), listed(inner, ", "), ")"] for word in ("and(", "or(")]
    if depth > 1 and alls:
        inner = [*chars(" ("), ("claim", depth - 1, False), *chars(" -> "), ("claim", depth - 1, False), ")"]
        found += [[*chars("all "), ("name", 8), *inner], [*chars("all "), ("name", 8), *chars(", "), ("name", 8), *inner]]
    return found


def some_listed(one, between):
    return [[one], [one, *chars(between), listed(one, between)]]


def maybe(one, between=", "):
    return [["-"], [listed(one, between)]]


def rows(inside):
    return [[listed(("row", inside), "; ")]]


def block(inside):
    return [chars("{ }")] + ([[*chars("{ "), ("rows", inside), *chars(" }")]] if inside <= 4 else [])


def row(inside):
    word, condition, inner = ("name", 8), ("claim", 12, True), ("block", inside + 1)
    given = [("maybe", word), *chars(" | "), ("maybe", ("short",)), *chars(" | "), ("maybe", ("amount",))]
    return [[word, *chars(" := "), ("short",)], [word, *chars(" = "), ("amount",)], [("cell",), *chars(" = "), ("amount",)],
            [*chars("lend "), word, *chars(" = "), word], [*chars("call "), word, "(", *given, ")"],
            [*chars("if "), condition, " ", inner, *chars(" else "), inner], [*chars("while "), condition, " ", inner]]


def told(was):
    word = ("name", 8)
    full = [*chars("full "), word, ":", word]
    return [[*chars("look "), word, ":", word], [*full, *chars(" was "), word] if was else full]


def heading(was):
    return [[("maybe", ("told", was)), *chars(" | "), ("maybe", ("name", 8)), *chars(" | "), ("maybe", ("name", 8))]]


def claims():
    return maybe(("claim", 12, True), " & ")


def notes():
    return [[], [listed(("claims",), "; ")]]


def function():
    return [[("name", 8), "(", ("heading", True), *chars(") with ("), ("heading", False), *chars(") before ("), ("claims",), *chars(") after ("), ("claims",),
             *chars(") notes ("), ("notes",), *chars(") "), ("block", 0)]]


def functions():
    return [[listed(("function",), "\n")]]


def all_rows():
    return [[], [("rows", 0)]]


def cells():
    return [["-"], [listed(("integer",), " ")]]


def named(words, one):
    if not words:
        return [["-"]]
    return [[symbol for at, word in enumerate(words) for symbol in (*chars(f"{' ' if at else ''}{word}="), one)]]


def situation(arrays, positions, amounts):
    return [[("named", arrays, ("cells",)), *chars(" | "), ("named", positions, ("integer",)), *chars(" | "), ("named", amounts, ("integer",))]]


RULES = {
    "name": name, "great": great, "digits": digits, "integer": integer, "short": short, "cell": cell, "amount": amount, "op": op, "claim": claim,
    "listed": some_listed, "maybe": maybe, "rows": rows, "block": block, "row": row, "told": told, "heading": heading, "claims": claims, "notes": notes,
    "function": function, "functions": functions, "all_rows": all_rows, "cells": cells, "named": named, "situation": situation,
}
SETS = {"letters": LETTERS, "digits": DIGITS, "great": DIGITS - {"0"}}


def accepts(symbol, letter):
    """Whether a symbol that stands for one character stands for this one."""
    return letter in SETS[symbol[1]] if symbol[0] == "some" else letter == symbol[1]


class Chart:
    """How far a text is the beginning of one of the start symbol: the items behind each of its characters."""

    def __init__(self, start):
        self.start = start
        self.items = [self.closed([(start, alternative, 0, 0) for alternative in rules(start)], [])]

    def closed(self, items, ahead):
        """All items that come with these; `ahead` has those behind each character ahead."""
        here = len(ahead)
        found, seen = [], set()
        waiting = list(items)
        empty = set()
        while waiting:
            item = waiting.pop()
            if item in seen:
                continue
            seen.add(item)
            found.append(item)
            symbol, parts, dot, origin = item
            if dot == len(parts):
                if origin == here:
                    empty.add(symbol)
                before = found if origin == here else ahead[origin]
                waiting += [(other, told_by, place + 1, first) for other, told_by, place, first in list(before)
                            if place < len(told_by) and told_by[place] == symbol]
            elif parts[dot][0] not in ("char", "some"):
                waiting += [(parts[dot], alternative, 0, here) for alternative in rules(parts[dot])]
                if parts[dot] in empty:
                    waiting.append((symbol, parts, dot + 1, origin))
        return found

    def read(self, text):
        """Read on; the index of the first character that is wrong, or None."""
        for letter in text:
            moved = [(symbol, parts, dot + 1, origin) for symbol, parts, dot, origin in self.items[-1]
                     if dot < len(parts) and parts[dot][0] in ("char", "some") and accepts(parts[dot], letter)]
            if not moved:
                return len(self.items) - 1
            self.items.append(self.closed(moved, self.items))
        return None

    def is_whole(self):
        """Whether what was read is a whole text."""
        return any(symbol == self.start and dot == len(parts) and origin == 0 for symbol, parts, dot, origin in self.items[-1])

    def first(self, many):
        """The chart of the first characters alone."""
        made = Chart.__new__(Chart)
        made.start, made.items = self.start, self.items[:many + 1]
        return made


def wrong_at(chart, text):
    """The index that an error tells for what a chart has read and this text behind it, or None if there is none."""
    chart = chart.first(len(chart.items) - 1)
    found = chart.read(text)
    if found is not None:
        return found
    return None if chart.is_whole() else len(chart.items) - 1
