"""Shapes: which parameters wanted loans can reach into at a loop."""

from lentcells.base.integers import is_index
from lentcells.errors import InvalidNumber, InvalidOperation
from lentcells.loans.facts import function_of
from lentcells.loans.flow import nexts_of, noted_loans, loop_at, uses_of
from lentcells.loans.tables import Table
from lentcells.loans.walks import facts_along, is_walk_of, nexts_behind


def function_with(program, called, loop):
    """The function of a program, if it has a loop with this number."""
    function = function_of(program, called)
    if not is_index(loop, len(function.notes)):
        raise InvalidNumber(loop)
    return function


def sound_table(program, called):
    """The least table of a function, if it is sound."""
    table = Table(program, called)
    if not table.is_sound:
        raise InvalidOperation("the function is not sound")
    return table


def names_asked(program, function, number):
    """The array names that a row uses, and those that its notes name if it is a while."""
    loop = loop_at(function, number)
    noted = [] if loop is None else noted_loans(function, loop)
    return noted + [array for way, array in uses_of(program, function, number)]


def is_wanted(program, function, loan, start):
    """Whether some way from a row leads to one that asks for a loan, ahead of lending something to it."""
    seen = {start: True}
    waiting = [start]
    while len(waiting) > 0:
        number = waiting.pop()
        if loan in names_asked(program, function, number):
            return True
        if number < len(function) and function.row(number)[:2] != ("lend", loan):
            for further in nexts_of(function, number):
                if further not in seen:
                    seen[further] = True
                    waiting.append(further)
    return False


def wanted_at(program, function, loop):
    """The ascending tuple of the loans that are wanted at a loop."""
    loans = sorted([told[1] for told in function.loans])
    return tuple([loan for loan in loans if is_wanted(program, function, loan, function.while_of(loop))])


def fit_together(function, state, one, other):
    """Whether two pairs (loan, parameter) can stand in one shape."""
    if one[1] != other[1] or (function.way_of(one[0]), function.way_of(other[0])) == ("look", "look"):
        return True
    return ("into", one[0], other[0]) in state or ("into", other[0], one[0]) in state


def shapes_at(program, function, loop, state):
    """The ascending tuple of all shapes at a loop with this state ahead of it."""
    parameters = sorted([told[1] for told in function.arrays])
    found = [()]
    for loan in wanted_at(program, function, loop):
        pairs = [(loan, parameter) for parameter in parameters if ("into", loan, parameter) in state]
        found = [(*shape, pair) for shape in found for pair in pairs
                 if all([fit_together(function, state, other, pair) for other in shape])]
    return tuple(found)


def wanted(program, called, loop):
    """The ascending tuple of the loans that are wanted at a loop."""
    function = function_with(program, called, loop)
    sound_table(program, called)
    return wanted_at(program, function, loop)


def shapes(program, called, loop):
    """The ascending tuple of all shapes at a loop."""
    function = function_with(program, called, loop)
    table = sound_table(program, called)
    return shapes_at(program, function, loop, table.state(function.while_of(loop)))


def is_shape(program, called, loop, value):
    """Whether the value is a shape at a loop."""
    return value in shapes(program, called, loop)


def shape_of(program, called, loop, walk):
    """The shape that a walk to a loop has."""
    function = function_with(program, called, loop)
    if not is_walk_of(function, walk) or function.while_of(loop) not in nexts_behind(function, walk):
        raise InvalidOperation("this is no walk to the loop")
    sound_table(program, called)
    facts = facts_along(program, function, walk)[-1]
    parameters = sorted([told[1] for told in function.arrays])
    pairs = [(loan, parameter) for loan in wanted_at(program, function, loop) for parameter in parameters]
    return tuple([pair for pair in pairs if ("into", *pair) in facts])
