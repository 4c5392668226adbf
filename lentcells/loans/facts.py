"""Facts about loans: what can be so ahead of a row and behind it, and what is wrong there."""

from lentcells.base.integers import is_index
from lentcells.code.programs import check_program
from lentcells.errors import InvalidNumber, InvalidOperation
from lentcells.loans.flow import empty_loans, facts_behind, is_fact, is_state_of, nexts_of, row_faults, uses_of


def function_of(program, called):
    """The function of a program, if this is one."""
    check_program(program)
    return program[called]


def check_row(function, row):
    """Raise InvalidNumber if this is no row of the function, and not its end."""
    if not is_index(row, len(function) + 1):
        raise InvalidNumber(row)


def check_fact(function, fact):
    """Raise InvalidOperation if this is no fact of the function."""
    if not is_fact(function, fact):
        raise InvalidOperation("this is no fact of the function")


def state_of(facts):
    """The state of the facts in a dict."""
    return tuple(sorted(facts))


def first_state(program, called):
    """The state at the beginning."""
    return state_of(empty_loans(function_of(program, called)))


def is_state(program, called, value):
    """Whether the value is an ascending tuple of facts of the function."""
    return is_state_of(function_of(program, called), value)


def next_rows(program, called, row):
    """The ascending tuple of the rows that can come next behind a row."""
    function = function_of(program, called)
    check_row(function, row)
    return nexts_of(function, row)


def uses(program, called, row):
    """The pairs (way, array) of the uses of a row, in order."""
    function = function_of(program, called)
    check_row(function, row)
    return uses_of(program, function, row)


def facts_of(function, row, state):
    """The dict of the facts of a state ahead of a row, if both are right."""
    check_row(function, row)
    if not is_state_of(function, state):
        raise InvalidOperation("this is no state of the function")
    return {fact: True for fact in state}


def behind(program, called, row, state):
    """The state behind a row with the facts of a state ahead of it."""
    function = function_of(program, called)
    return state_of(facts_behind(program, function, row, facts_of(function, row, state)))


def faults_of(program, called, row, state):
    """The faults of a row with the facts of a state ahead of it, in order."""
    function = function_of(program, called)
    return row_faults(program, function, row, facts_of(function, row, state))
