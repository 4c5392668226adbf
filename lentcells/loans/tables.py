"""Tables: for each row the facts that can be so ahead of it."""

from lentcells.code.programs import check_program
from lentcells.loans.facts import check_fact, check_row, function_of, state_of
from lentcells.loans.flow import empty_loans, facts_behind, is_state_of, nexts_of, row_faults


def least_states(program, function):
    """The least closed table, with dicts of facts in the place of states."""
    found = {0: empty_loans(function)}
    waiting = [0]
    while len(waiting) > 0:
        number = waiting.pop()
        behind = facts_behind(program, function, number, found[number])
        for further in nexts_of(function, number):
            more = {**found.get(further, {}), **behind}
            if further not in found or len(more) > len(found[further]):
                found[further] = more
                waiting.append(further)
    return [found.get(number) for number in range(len(function) + 1)]


def table_faults(program, function, states):
    """The ascending tuple of the pairs (row, fault) of a table."""
    found = []
    for number, state in enumerate(states):
        if state is not None:
            facts = {fact: True for fact in state}
            found.extend([(number, fault) for fault in row_faults(program, function, number, facts)])
    return tuple(sorted(found))


class Table:
    """The least table of a function; it never changes."""

    def __init__(self, program, called):
        function = function_of(program, called)
        self._program = program
        self._called = called
        self._function = function
        found = least_states(program, function)
        self._states = tuple([None if facts is None else state_of(facts) for facts in found])
        self._faults = table_faults(program, function, self._states)

    @property
    def program(self):
        """The program."""
        return self._program

    @property
    def called(self):
        """The name of the function."""
        return self._called

    @property
    def states(self):
        """The state ahead of each row and of the end, or None where no walk comes."""
        return self._states

    @property
    def faults(self):
        """The ascending tuple of the pairs (row, fault)."""
        return self._faults

    @property
    def is_sound(self):
        """Whether no row has a fault."""
        return len(self._faults) == 0

    def state(self, row):
        """The state ahead of a row, or None."""
        check_row(self._function, row)
        return self._states[row]

    def has(self, row, fact):
        """Whether a fact can be so ahead of a row."""
        check_row(self._function, row)
        check_fact(self._function, fact)
        return self._states[row] is not None and fact in self._states[row]

    def _all_facts(self):
        return [fact for state in self._states if state is not None for fact in state]

    def __len__(self):
        return len(self._all_facts())

    def __eq__(self, other):
        return isinstance(other, Table) and (self._called, self._program) == (other._called, other._program)

    def __str__(self):
        return f"table of {self._called}: {len(self)} facts, {len(self._faults)} faults"


def is_table_of(function, value):
    """Whether the value is a table of the function."""
    if not isinstance(value, tuple) or len(value) != len(function) + 1:
        return False
    return all([state is None or is_state_of(function, state) for state in value])


def is_table(program, called, value):
    """Whether the value is a table of the function, with any states."""
    return is_table_of(function_of(program, called), value)


def has_all(state, facts):
    """Whether a row is reached and its state has all these facts."""
    return state is not None and all([fact in state for fact in facts])


def is_closed_from(program, function, states, number):
    """Whether all rows that can come behind a row have the facts behind it, if it is reached."""
    if states[number] is None:
        return True
    behind = facts_behind(program, function, number, {fact: True for fact in states[number]})
    return all([has_all(states[further], behind) for further in nexts_of(function, number)])


def is_closed(program, called, value):
    """Whether the value is a closed table of the function, with or without faults."""
    function = function_of(program, called)
    if not is_table_of(function, value) or not has_all(value[0], empty_loans(function)):
        return False
    return all([is_closed_from(program, function, value, number) for number in range(len(value))])


def unsound(program):
    """The ascending tuple of the names of the functions that are not sound."""
    check_program(program)
    return tuple([called for called in program.names if not Table(program, called).is_sound])
