"""Greatest choices: the most candidates for claims that carry one another."""

from lentcells.base.integers import is_index, is_whole
from lentcells.decide.follows import breaking
from lentcells.use.chosen import Chosen, checked_choice, is_choice_of, program_with

DROP = 7


class Answers:
    """What was found of questions: a situation that breaks one, or None."""

    def __init__(self):
        self._found = {}

    def situation_for(self, question):
        """A situation that breaks the question, or None."""
        key = f"{question.frame}; {question.claims}; {question.goal}"
        if key not in self._found:
            self._found[key] = breaking(question)
        return self._found[key]


def is_choice(program, candidates, value, roots=()):
    """Whether the value is a choice."""
    checked_choice(program, candidates, roots)
    return is_choice_of(candidates, value)


def falling_in(chosen, answers):
    """The list of the candidates about which some question does not follow, each once."""
    found = {}
    for caller, at, place, about, question in chosen.all_asked():
        if about not in found and answers.situation_for(question) is not None:
            found[about] = True
    return list(found)


def in_rounds(program, candidates, roots):
    """The greatest carried choice, and a dict from the candidates that are not in it to their rounds."""
    chosen = Chosen(program, candidates, roots, checked_choice(program, candidates, roots))
    answers = Answers()
    found = {}
    number = 0
    falling = falling_in(chosen, answers)
    while len(falling) > 0:
        for candidate in falling:
            found[candidate] = number
        chosen.drop(falling)
        number += 1
        falling = falling_in(chosen, answers)
    return chosen.choice, found


def greatest_choice(program, candidates, roots=()):
    """The greatest carried choice."""
    return in_rounds(program, candidates, roots)[0]


def ranks(program, candidates, roots=()):
    """A dict like a choice with the ranks of all candidates, None for those that are not dropped."""
    found = in_rounds(program, candidates, roots)[1]
    made = {}
    for called in sorted(candidates):
        before, notes, after = candidates[called]
        kinds = [("before", before), *list(enumerate(notes)), ("after", after)]
        told = [tuple([found.get((called, kind, index)) for index in range(len(claims))]) for kind, claims in kinds]
        made[called] = (told[0], tuple(told[1:-1]), told[-1])
    return made


def is_carried(program, candidates, value, roots=()):
    """Whether the value is a carried choice."""
    checked_choice(program, candidates, roots)
    return is_choice_of(candidates, value) and carries(Chosen(program, candidates, roots, value))


def carries(chosen):
    """Whether all questions about chosen candidates follow."""
    for caller, at, place, about, question in chosen.all_asked():
        if breaking(question) is not None:
            return False
    return True


def next_drop(chosen, answers):
    """What a paper tells of a candidate about which some question does not follow, or None."""
    for caller, at, place, about, question in chosen.all_asked():
        situation = answers.situation_for(question)
        if situation is not None:
            return (*about, caller, at, place, situation)
    return None


def choice_paper(program, candidates, roots=()):
    """Any paper that shows which choice is the greatest carried one."""
    chosen = Chosen(program, candidates, roots, checked_choice(program, candidates, roots))
    answers = Answers()
    drops = []
    drop = next_drop(chosen, answers)
    while drop is not None:
        drops.append(drop)
        chosen.drop([drop[:3]])
        drop = next_drop(chosen, answers)
    return chosen.choice, tuple(drops)


def is_kind(program, called, value):
    """Whether the value is a kind of candidates of a function."""
    return value in ("before", "after") or is_index(value, len(program[called].notes))


def is_drop(program, chosen, value):
    """Whether the value shows that a candidate is to be dropped."""
    if not isinstance(value, tuple) or len(value) != DROP:
        return False
    called, kind, index, caller, at, place, situation = value
    if called not in program or caller not in program or not is_kind(program, called, kind):
        return False
    asked = chosen.asked_by[caller]
    if not is_index(at, len(asked)) or not is_index(place, len(asked[at])):
        return False
    about, question = asked[at][place]
    return is_whole(index) and about == (called, kind, index) and question.is_broken_by(situation)


def is_choice_paper(program, candidates, value, roots=()):
    """Whether the value is a paper that shows which choice is the greatest carried one."""
    choice = checked_choice(program, candidates, roots)
    if not isinstance(value, tuple) or len(value) != 2 or not isinstance(value[1], tuple):
        return False
    if not is_choice_of(candidates, value[0]):
        return False
    chosen = Chosen(program, candidates, roots, choice)
    for drop in value[1]:
        if not is_drop(program, chosen, drop):
            return False
        chosen.drop([drop[:3]])
    return chosen.choice == value[0] and carries(chosen)


def best_program(program, candidates, roots=()):
    """The program with the greatest carried choice."""
    return program_with(program, candidates, roots, greatest_choice(program, candidates, roots))
