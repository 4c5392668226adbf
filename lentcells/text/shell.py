"""A shell: a desk that is told commands, and answers in texts."""

from lentcells.base.frames import is_name
from lentcells.desk.desk import Desk
from lentcells.desk.stock import is_desk_claim
from lentcells.errors import (
    InvalidFunction, InvalidOperation, InvalidProgram, NothingToUndo, ParseError, Refused, TooMany, UnknownName)
from lentcells.loans.tables import Table
from lentcells.text.reading import DIGITS, MAX_DIGITS
from lentcells.text.texts import read_functions, write_function
from lentcells.use.contracts import stands_in

# How many names stand behind the words of commands that have nothing else behind them.
NAMES_BEHIND = {"take": 1, "show": 1, "callers": 1, "faults": 1, "stands": 2, "names": 0, "claims": 0, "verdicts": 0}


class WrongCommand(ValueError):
    """This is no command."""


def list_text(texts):
    """The texts of what an answer lists."""
    return "; ".join(texts) if len(texts) > 0 else "none"


def news_text(pairs):
    """The text of pairs of a name and a verdict, or None."""
    return list_text([f"{called} -" if verdict is None else f"{called} {verdict}" for called, verdict in pairs])


def claim_text(claim):
    """The text of a claim of a desk."""
    return " ".join(claim)


def fault_text(pair):
    """The text of a row and its fault."""
    number, fault = pair
    return f"{number} {fault[0]} {fault[1]}"


def number_in(word):
    """The number of which this is the text."""
    digits = len(word) > 0 and all([letter in DIGITS for letter in word])
    if not digits or len(word) > MAX_DIGITS or (word[0] == "0" and len(word) > 1):
        raise WrongCommand("this is no number")
    return int(word)


def names_in(text, many):
    """So many names with single blanks between them."""
    words = text.split(" ") if text != "" else []
    if len(words) != many or not all([is_name(word) for word in words]):
        raise WrongCommand("these are not so many names")
    return words


def claim_in(text):
    """The claim of which this is the text."""
    claim = tuple(text.split(" "))
    if not is_desk_claim(claim):
        raise WrongCommand("this is no claim")
    return claim


class Shell:
    """A desk that is empty at first, and how many commands it has answered without an error."""

    def __init__(self):
        self._desk = Desk()
        self._answered = []

    def __call__(self, command):
        return self.answer(command)

    def answer(self, command):
        """The answer to a command."""
        try:
            told = self._carry_out(command)
        except WrongCommand:
            return "what"
        except ParseError as cut:
            return f"text {cut.index}"
        except InvalidFunction:
            return "function"
        except InvalidProgram:
            return "program"
        except UnknownName as lost:
            return f"unknown {lost.name}"
        except Refused as barred:
            return f"refused {claim_text(barred.reason)}"
        except TooMany as over:
            return f"many {over.bound}"
        except NothingToUndo as short:
            return f"nothing {short.asked}"
        except InvalidOperation:
            return "cannot"
        self._answered.append(command)
        return told

    def _carry_out(self, command):
        if not isinstance(command, str):
            raise WrongCommand("this is no text")
        word, blank, rest = command.partition(" ")
        if blank != "" and rest == "":
            raise WrongCommand("nothing stands behind the blank")
        if word == "put" and rest != "":
            return news_text(self._desk.put(read_functions(rest)))
        if word in ("demand", "waive"):
            claim = claim_in(rest)
            return news_text(self._desk.demand(claim) if word == "demand" else self._desk.waive(claim))
        if word in ("undo", "redo"):
            many = 1 if rest == "" else number_in(rest)
            return news_text(self._desk.undo(many=many) if word == "undo" else self._desk.redo(many=many))
        if word not in NAMES_BEHIND:
            raise WrongCommand("there is no such command")
        return self._carry_out_named(word, names_in(rest, NAMES_BEHIND[word]))

    def _carry_out_named(self, word, names):
        desk = self._desk
        if word == "names":
            return list_text(desk.names)
        if word == "claims":
            return list_text([claim_text(claim) for claim in desk.claims])
        if word == "verdicts":
            return news_text(list(desk.verdicts.items()))
        if word == "take":
            return news_text(desk.take(names[0]))
        functions = [desk[name] for name in names]
        if word == "show":
            return write_function(functions[0])
        if word == "callers":
            return list_text(desk.callers(names[0]))
        if word == "faults":
            return list_text([fault_text(pair) for pair in Table(desk.whole(), names[0]).faults])
        return "yes" if stands_in(functions[0], functions[1]) else "no"

    def desk(self):
        """A twin of its desk."""
        return self._desk.twin()

    def __len__(self):
        return len(self._answered)

    def __str__(self):
        return f"shell of {len(self._answered)} commands"
