"""Contracts: whether one function may stand in for another one."""

from lentcells.base.integers import is_index
from lentcells.code.functions import Function
from lentcells.decide.follows import follows, paper
from lentcells.errors import InvalidFunction, InvalidOperation
from lentcells.logic.claims import carried
from lentcells.solve.questions import Question
from lentcells.solve.trees import is_tree


def check_functions(one, other):
    """Raise InvalidFunction if one of both is no function."""
    for function in (one, other):
        if not isinstance(function, Function):
            raise InvalidFunction("this is no function")


def headings_alike(one, other):
    """Whether two functions have like headings."""
    check_functions(one, other)
    if [told[0] for told in one.arrays] != [told[0] for told in other.arrays]:
        return False
    pairs = [(mine[2], theirs[2]) for mine, theirs in zip(one.arrays, other.arrays)]
    many = len(set(pairs))
    if len(set([mine for mine, theirs in pairs])) != many or len(set([theirs for mine, theirs in pairs])) != many:
        return False
    return (len(one.positions), len(one.amounts)) == (len(other.positions), len(other.amounts))


class Exchange:
    """The exchange of the names of one function for those of another one with a like heading."""

    def __init__(self, one, other):
        self._one = one
        self._other = other
        self._arrays = {}
        self._was = {}
        for mine, theirs in zip(one.arrays, other.arrays):
            self._arrays[mine[1]] = theirs[1]
            if mine[0] == "full":
                self._was[mine[3]] = theirs[3]
        words = list(zip(one.positions + one.amounts, other.positions + other.amounts))
        self._terms = {mine: (theirs, 0) for mine, theirs in words}

    def of_beginning(self, claim):
        """A claim of the start frame."""
        return carried(self._one.start_frame, claim, self._other.start_frame, self._arrays, self._terms)

    def of_end(self, claim):
        """A claim of the end frame."""
        arrays = {**self._arrays, **self._was}
        return carried(self._one.end_frame, claim, self._other.end_frame, arrays, self._terms)


def with_was_names(function, claim):
    """A claim of the start frame as one of the end frame, about what full arrays had at the beginning."""
    arrays = {told[1]: told[3] if told[0] == "full" else told[1] for told in function.arrays}
    terms = {word: (word, 0) for word in function.positions + function.amounts}
    return carried(function.start_frame, claim, function.end_frame, arrays, terms)


def contract_questions(one, other):
    """The pairs (kind, question) that have to follow if one function is to stand in for the other one."""
    if not headings_alike(one, other):
        raise InvalidOperation("the headings are not alike")
    exchange = Exchange(one, other)
    found = []
    for index, claim in enumerate(one.before):
        wanted = exchange.of_beginning(claim)
        found.append((("before", index), Question(other.start_frame, other.before, wanted)))
    given = [with_was_names(other, claim) for claim in other.before]
    given = tuple(given + [exchange.of_end(claim) for claim in one.after])
    for index, claim in enumerate(other.after):
        found.append((("after", index), Question(other.end_frame, given, claim)))
    return tuple(found)


def stands_in(one, other):
    """Whether one function may stand in for the other one."""
    if not headings_alike(one, other):
        return False
    for kind, question in contract_questions(one, other):
        if not follows(question):
            return False
    return True


def standing_paper(one, other):
    """Any paper that shows whether one function may stand in for the other one."""
    trees = []
    for index, (kind, question) in enumerate(contract_questions(one, other)):
        word, shown = paper(question)
        if word == "broken":
            return ("falls", index, shown)
        trees.append(shown)
    return ("stands", tuple(trees))


def is_standing_paper(one, other, value):
    """Whether the value is a paper that shows whether one function may stand in for the other one."""
    questions = [question for kind, question in contract_questions(one, other)]
    if not isinstance(value, tuple) or len(value) not in (2, 3):
        return False
    if len(value) == 3:
        return value[0] == "falls" and is_index(value[1], len(questions)) and questions[value[1]].is_broken_by(value[2])
    if value[0] != "stands" or not isinstance(value[1], tuple) or len(value[1]) != len(questions):
        return False
    return all([is_tree(question, tree) for question, tree in zip(questions, value[1])])
