"""Programs: functions that call one another."""

from lentcells.base.frames import is_name
from lentcells.code.functions import Function
from lentcells.code.rows import calls_in, renamed_calls
from lentcells.errors import InvalidFunction, InvalidOperation, InvalidProgram, UnknownName

MAX_FUNCTIONS = 6


def check_program(program):
    """Raise InvalidProgram if this is no program."""
    if not isinstance(program, Program):
        raise InvalidProgram("this is no program")


def lengths_fit(caller, arrays, callee):
    """Whether array names of the caller have one length wherever the parameters of the callee have."""
    lengths = [caller.frame.length_of(array) for array in arrays]
    pairs = [(told[2], length) for told, length in zip(callee.arrays, lengths)]
    return len(set(pairs)) == len(set([wanted for wanted, length in pairs]))


def fits(caller, row, callee):
    """Whether a call passes what the callee takes."""
    arrays, positions, values = row[2:]
    if (len(arrays), len(positions), len(values)) != (
            len(callee.arrays), len(callee.positions), len(callee.amounts)):
        return False
    for array, told in zip(arrays, callee.arrays):
        if told[0] == "full" and caller.way_of(array) != "full":
            return False
    return lengths_fit(caller, arrays, callee)


def calls_fit(functions):
    """Whether all calls among functions fit what they call."""
    table = {function.called: function for function in functions}
    for function in functions:
        for row in calls_in(function.rows):
            if row[1] not in table or not fits(function, row, table[row[1]]):
                return False
    return True


def is_program_of(functions):
    """Whether this is a tuple of functions that make a program."""
    if not isinstance(functions, tuple) or not 1 <= len(functions) <= MAX_FUNCTIONS:
        return False
    if not all([isinstance(function, Function) for function in functions]):
        return False
    return len(set([function.called for function in functions])) == len(functions) and calls_fit(functions)


class Program:
    """One to six functions with different names; it never changes."""

    def __init__(self, functions):
        if not is_program_of(functions):
            raise InvalidProgram("these functions make no program")
        table = {function.called: function for function in functions}
        self._table = {called: table[called] for called in sorted(table)}
        self._functions = tuple(self._table.values())
        self._names = tuple(self._table)

    @property
    def functions(self):
        """The functions, ascending by name."""
        return self._functions

    @property
    def names(self):
        """The ascending names of the functions."""
        return self._names

    def __getitem__(self, called):
        if called not in self:
            raise UnknownName(called)
        return self._table[called]

    def __contains__(self, value):
        return isinstance(value, str) and value in self._table

    def __len__(self):
        return len(self._functions)

    def __iter__(self):
        return iter(self._functions)

    def callers(self, called):
        """The ascending names of the functions that call a function."""
        self._check_called(called)
        return tuple([function.called for function in self._functions if called in function.callees])

    def _check_called(self, called):
        if called not in self:
            raise UnknownName(called)

    def needed(self, called):
        """The ascending names of the functions to which calls lead from a function, itself included."""
        self._check_called(called)
        found = {called: True}
        waiting = [called]
        while len(waiting) > 0:
            for name in self._table[waiting.pop()].callees:
                if name not in found:
                    found[name] = True
                    waiting.append(name)
        return tuple(sorted(found))

    def with_function(self, function):
        """The program with a function in the place of the one with its name, if there is one."""
        if not isinstance(function, Function):
            raise InvalidFunction("this is no function")
        others = [other for other in self._functions if other.called != function.called]
        return Program((*others, function))

    def without(self, called):
        """The program without a function."""
        self._check_called(called)
        return Program(tuple([function for function in self._functions if function.called != called]))

    def renamed(self, names):
        """The program with other names of functions, by a dict from some of them."""
        if not isinstance(names, dict) or not all([old in self and is_name(new) for old, new in names.items()]):
            raise InvalidOperation("this is no dict from names of functions to names")
        if len(set([names.get(name, name) for name in self._names])) < len(self._names):
            raise InvalidOperation("two functions would have one name")
        made = []
        for function in self._functions:
            rows = renamed_calls(function.rows, names)
            called = names.get(function.called, function.called)
            made.append(function.with_rows(rows, function.notes).called_as(called))
        return Program(tuple(made))

    def __eq__(self, other):
        return isinstance(other, Program) and self._functions == other._functions

    def _all_rows(self):
        return [row for function in self._functions for row in function]

    def __str__(self):
        return f"program of {len(self._functions)} functions, {len(self._all_rows())} rows"
