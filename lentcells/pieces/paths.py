"""The paths of a function from its beginning, or from a loop, to what comes next of its loops and its end."""

from lentcells.loans.flow import loop_at

OUTER = -1


class Path:
    """The answers of the conditions that are asked on a path, its rows, and the number of the loop at its end."""

    def __init__(self, truths, gone, last):
        self.truths = truths
        self.gone = gone
        self.last = last


def first_steps(function, start):
    """The triples (row, answers, trail) with which paths begin, the last one first."""
    if start == OUTER:
        return [(0, (), ())]
    number = function.while_of(start)
    return steps_behind(function, number, (), ())


def steps_behind(function, number, answers, trail):
    """The triples behind a row: for a condition what comes if it is true, and then if it is false."""
    ways = function.ways_behind(number)
    if len(ways) == 1:
        return [(ways[0], answers, (*trail, number))]
    return [(way, (*answers, answer), (*trail, number)) for way, answer in zip(ways, (True, False))]


def paths_from(function, start, most):
    """The first paths from a loop or from the beginning, at most so many, by ascending answers."""
    found = []
    waiting = first_steps(function, start)
    while len(waiting) > 0 and len(found) < most:
        number, answers, trail = waiting.pop()
        if number == len(function):
            found.append(Path(answers, trail, OUTER))
        elif function.row(number)[0] == "while":
            found.append(Path(answers, trail, loop_at(function, number)))
        else:
            waiting.extend(steps_behind(function, number, answers, trail))
    return found
