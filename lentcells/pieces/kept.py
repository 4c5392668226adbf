"""Kept programs: those that are sound, and all questions of whose pieces follow; and what shows it."""

from lentcells.base.integers import is_index
from lentcells.code.programs import check_program
from lentcells.decide.deciding import check_size
from lentcells.decide.follows import follows, paper
from lentcells.errors import InvalidOperation
from lentcells.loans.facts import function_of
from lentcells.loans.flow import row_faults
from lentcells.loans.tables import Table, is_closed, table_faults, unsound
from lentcells.loans.trails import faulty_walk
from lentcells.loans.walks import facts_along, is_walk_of
from lentcells.pieces.pieces import pieces
from lentcells.solve.trees import is_tree
from lentcells.world.situations import has_just


def questions_in(program, called):
    """The list with the list of the questions of each piece of a sound function."""
    return [[question for kind, question in piece.questions()] for piece in pieces(program, called)]


def check_sizes(found):
    """Raise TooMany for the first question of lists of lists that is too great to be decided."""
    for questions in found:
        for question in questions:
            check_size(question)


def sized_questions(program, names):
    """The dict from names of sound functions to their lists of questions, none of which is too great."""
    found = {called: questions_in(program, called) for called in names}
    for called in names:
        check_sizes(found[called])
    return found


def all_follow(found):
    """Whether all questions in lists follow."""
    for questions in found:
        for question in questions:
            if not follows(question):
                return False
    return True


def is_kept(program, called):
    """Whether a function is sound and all questions of its pieces follow."""
    function_of(program, called)
    if not Table(program, called).is_sound:
        return False
    return all_follow(sized_questions(program, (called,))[called])


def is_program_kept(program):
    """Whether all functions of a program are kept."""
    check_program(program)
    if len(unsound(program)) > 0:
        return False
    found = sized_questions(program, program.names)
    return all([all_follow(questions) for questions in found.values()])


def broken_questions(program, called):
    """The ascending tuple of the pairs (piece, question) of the indices of all questions that do not follow."""
    function_of(program, called)
    if not Table(program, called).is_sound:
        raise InvalidOperation("the function is not sound")
    found = sized_questions(program, (called,))[called]
    return tuple([(at, index) for at, questions in enumerate(found)
                  for index, question in enumerate(questions) if not follows(question)])


def kept_paper(program):
    """Any paper that shows whether a program is kept."""
    check_program(program)
    faulty = unsound(program)
    if len(faulty) > 0:
        return ("faulty", faulty[0], faulty_walk(program, faulty[0]))
    trees = {}
    for called, found in sized_questions(program, program.names).items():
        trees[called] = []
        for at, questions in enumerate(found):
            told = [paper(question) for question in questions]
            for index, (word, shown) in enumerate(told):
                if word == "broken":
                    return ("broken", called, at, index, shown)
            trees[called].append(tuple([shown for word, shown in told]))
    tables = {called: Table(program, called).states for called in program.names}
    return ("kept", tables, {called: tuple(trees[called]) for called in program.names})


def is_kept_paper(program, value):
    """Whether the value is a paper that shows whether a program is kept."""
    check_program(program)
    if len(unsound(program)) > 0:
        return is_worded(value, "faulty", 3) and is_first_fault(program, value[1], value[2])
    found = {called: questions_in(program, called) for called in program.names}
    if is_worded(value, "broken", 5):
        return is_broken_at(found, value[1], value[2], value[3], value[4])
    return is_worded(value, "kept", 3) and are_tables(program, value[1]) and are_trees(found, value[2])


def is_worded(value, word, size):
    """Whether the value is a tuple of this size that begins with a word."""
    return isinstance(value, tuple) and len(value) == size and value[0] == word


def is_first_fault(program, called, walk):
    """Whether this is the name of a function and a walk of it whose last row has a fault, and no other one."""
    if called not in program or not is_walk_of(program[called], walk) or len(walk) == 0:
        return False
    ahead = facts_along(program, program[called], walk)
    faulty = [at for at, row in enumerate(walk) if len(row_faults(program, program[called], row, ahead[at])) > 0]
    return faulty == [len(walk) - 1]


def is_broken_at(found, called, at, index, situation):
    """Whether a situation breaks the question with an index of the piece with an index of a function."""
    if not isinstance(called, str) or called not in found or not is_index(at, len(found[called])):
        return False
    return is_index(index, len(found[called][at])) and found[called][at][index].is_broken_by(situation)


def are_tables(program, value):
    """Whether the value has a closed table without a fault for each function."""
    if not has_just(value, program.names):
        return False
    for called in program.names:
        if not is_closed(program, called, value[called]):
            return False
        if len(table_faults(program, program[called], value[called])) > 0:
            return False
    return True


def are_trees(found, value):
    """Whether the value has trees of all questions of all pieces of each function."""
    if not has_just(value, list(found)):
        return False
    return all([are_trees_of(found[called], value[called]) for called in found])


def are_trees_of(found, value):
    """Whether the value is a tuple with a tuple of trees of all questions for each piece."""
    if not isinstance(value, tuple) or len(value) != len(found):
        return False
    for questions, trees in zip(found, value):
        if not isinstance(trees, tuple) or len(trees) != len(questions):
            return False
        if not all([is_tree(question, tree) for question, tree in zip(questions, trees)]):
            return False
    return True
