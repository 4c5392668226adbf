"""Texts of claims, rows, functions and situations: writing and reading them."""

from lentcells.base.frames import check_frame
from lentcells.code.functions import Function
from lentcells.errors import InvalidClaim, InvalidFunction, InvalidSituation
from lentcells.text.forms import are_rows_form, is_claim_form
from lentcells.text.headings import read_parts, read_places
from lentcells.text.reading import Reader, read_claim_in, read_rows_in
from lentcells.text.writing import claim_text, function_text, rows_text
from lentcells.world.situations import Situation


def write_claim(claim):
    """The text of what has the form of a claim."""
    if not is_claim_form(claim):
        raise InvalidClaim("this has not the form of a claim")
    return claim_text(claim)


def write_rows(rows):
    """The text of what has the form of rows."""
    if not are_rows_form(rows):
        raise InvalidFunction("these have not the form of rows")
    return rows_text(rows)


def write_function(function):
    """The text of a function."""
    if not isinstance(function, Function):
        raise InvalidFunction("this is no function")
    return function_text(function)


def write_functions(functions):
    """The text of one or more functions."""
    if not isinstance(functions, tuple) or len(functions) == 0:
        raise InvalidFunction("this is no tuple of functions")
    return "\n".join([write_function(function) for function in functions])


def read_claim(text):
    """The tuple with this text that has the form of a claim."""
    reader = Reader(text)
    claim = read_claim_in(reader)
    reader.end()
    return claim


def read_rows(text):
    """The tuple with this text that has the form of rows."""
    reader = Reader(text)
    rows = () if text == "" else read_rows_in(reader, 0)
    reader.end()
    return rows


def made_function(called, parts):
    """The function that is made of what was read."""
    return Function(called, **parts)


def read_function(text):
    """The function with this text."""
    reader = Reader(text)
    called, parts = read_parts(reader)
    reader.end()
    return made_function(called, parts)


def read_functions(text):
    """The tuple of the functions with this text."""
    reader = Reader(text)
    found = reader.joined(lambda: read_parts(reader), "\n")
    reader.end()
    return tuple([made_function(called, parts) for called, parts in found])


def write_situation(situation):
    """The text of a situation."""
    if not isinstance(situation, Situation):
        raise InvalidSituation("this is no situation")
    return str(situation)


def read_situation(frame, text):
    """The situation of the frame with this text."""
    check_frame(frame)
    reader = Reader(text)
    rows, positions, amounts = read_places(reader, frame)
    reader.end()
    return Situation(frame, rows, positions, amounts)
