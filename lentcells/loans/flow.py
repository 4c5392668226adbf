"""What rows use, and what is so of loans behind them; states are dicts from facts to True here."""

from lentcells.logic.claims import names_of
from lentcells.logic.forms import atoms_in


def is_loan(function, value):
    """Whether the value is a loan of the function."""
    return value in [told[1] for told in function.loans]


def is_array_name(function, value):
    """Whether the value is a parameter or loan of the function."""
    return is_loan(function, value) or value in [told[1] for told in function.arrays]


def is_fact(function, value):
    """Whether the value is a fact about a loan of the function."""
    if not isinstance(value, tuple) or len(value) not in (2, 3) or not is_loan(function, value[1]):
        return False
    if len(value) == 2:
        return value[0] in ("empty", "held", "ended")
    return value[0] == "into" and is_array_name(function, value[2]) and value[2] != value[1]


def is_state_of(function, value):
    """Whether the value is an ascending tuple of facts of the function."""
    if not isinstance(value, tuple) or not all([is_fact(function, fact) for fact in value]):
        return False
    return all([one < other for one, other in zip(value, value[1:])])


def empty_loans(function):
    """The facts of the beginning."""
    return {("empty", told[1]): True for told in function.loans}


def nexts_of(function, number):
    """The ascending tuple of the rows that can come next behind a row, or behind the end."""
    return tuple(sorted(set(function.ways_behind(number)))) if number < len(function) else ()


def read_terms(row):
    """The value terms that a row reads, in the order of the text."""
    word = row[0]
    if word in ("if", "while"):
        return [term for atom in atoms_in(row[1]) if atom[0] == "val" for term in atom[2:]]
    if word == "call":
        return list(row[4])
    return [row[-1]] if word in ("keep", "write") else []


def uses_of(program, function, number):
    """The pairs (way, array) of the uses of a row, in order."""
    if number == len(function):
        return ()
    row = function.row(number)
    found = [("look", term[0]) for term in read_terms(row) if len(term) == 4]
    if row[0] == "write":
        found.append(("full", row[1]))
    if row[0] == "lend":
        found.append((function.way_of(row[1]), row[2]))
    if row[0] == "call":
        found.extend([(told[0], array) for array, told in zip(row[2], program[row[1]].arrays)])
    return tuple(found)


def ended_by(function, facts, way, array):
    """The facts with those that are so behind a use, too."""
    ended = {}
    for fact in facts:
        if fact[0] == "into" and fact[2] == array and "full" in (way, function.way_of(fact[1])):
            ended[("ended", fact[1])] = True
    return {**facts, **ended}


def lent(function, facts, loan, array):
    """The facts behind the lending of an array to a loan."""
    kept = {fact: True for fact in facts if fact[1] != loan and fact[2:] != (loan,)}
    if not is_loan(function, array):
        return {**kept, ("held", loan): True, ("into", loan, array): True}
    for fact in facts:
        if fact == ("empty", array):
            kept[("empty", loan)] = True
        elif fact == ("held", array):
            kept[("held", loan)] = True
            kept[("into", loan, array)] = True
        elif fact[:2] == ("into", array) and fact[2] != loan:
            kept[("into", loan, fact[2])] = True
    return kept


def facts_behind(program, function, number, facts):
    """The facts behind a row, or behind the end, with these facts ahead of it."""
    for way, array in uses_of(program, function, number):
        facts = ended_by(function, facts, way, array)
    if number == len(function):
        return facts
    row = function.row(number)
    return lent(function, facts, row[1], row[2]) if row[0] == "lend" else facts


def noted_loans(function, loop):
    """The ascending list of the loans that the notes of a loop name."""
    words = [word for claim in function.notes[loop] for word in names_of(function.frame, claim)]
    return [word for word in sorted(set(words)) if is_loan(function, word)]


def loop_at(function, number):
    """The number of the loop whose while is this row, or None."""
    for loop in range(len(function.notes)):
        if function.while_of(loop) == number:
            return loop
    return None


def gone_faults(facts, name):
    """The faults of using a name, or of a note that names it."""
    return [fact for fact in (("empty", name), ("ended", name)) if fact in facts]


def argument_faults(program, row, facts):
    """The faults of the array arguments of a call together."""
    found = []
    ways = [told[0] for told in program[row[1]].arrays]
    for at, array in enumerate(row[2]):
        for way, other in zip(ways[at + 1:], row[2][at + 1:]):
            if (other == array or ("into", array, other) in facts) and "full" in (way, ways[at]):
                found.append(("argument", at))
    return found


def row_faults(program, function, number, facts):
    """The faults of a row with these facts ahead of it, in order."""
    if number == len(function):
        return ()
    row = function.row(number)
    loop = loop_at(function, number)
    noted = [] if loop is None else noted_loans(function, loop)
    found = [fault for name in noted for fault in gone_faults(facts, name)]
    ahead = facts
    for way, array in uses_of(program, function, number):
        found.extend(gone_faults(ahead, array))
        ahead = ended_by(function, ahead, way, array)
    if row[0] == "call":
        found.extend(argument_faults(program, row, facts))
    return tuple({fault: True for fault in found})
