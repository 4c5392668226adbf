"""Proofs that questions follow, and the trees that they make."""

from lentcells.solve.steps import names_made, node_of


def renumbered(step, numbers):
    """A step with other numbers of facts, by a dict or list of the new ones."""
    kind = step[0]
    if kind == "ring":
        return (kind, tuple([(numbers[fact], way) for fact, way in step[1]]))
    if kind == "apart":
        return step
    if kind in ("same", "outside"):
        return (kind, step[1], numbers[step[2]])
    return (kind, numbers[step[1]], *step[2:])


def needs_of(step):
    """The numbers of the facts, and the names, on which a step hangs."""
    kind = step[0]
    if kind == "ring":
        return [fact for fact, way in step[1]]
    if kind == "apart":
        return [step[1][0], step[2][0]]
    if kind == "at":
        return [step[1], *[word for word, number in step[2]]]
    return [step[2]] if kind in ("same", "outside") else [step[1]]


class Proof:
    """A step, the marks of the facts that it adds for each of its next ones, and the proofs of these.

    `grounds` has as keys the marks of the facts and the names that have to be there, `words` the names that are made,
    and `size` is the number of nodes of the tree.
    """

    def __init__(self, step, fresh_marks, proofs):
        self.step = step
        self.fresh_marks = fresh_marks
        self.proofs = proofs
        self.size = 1 + sum([proof.size for proof in proofs])
        made = {word: True for word in names_made(step)}
        self.words = {word: True for proof in proofs for word in proof.words}
        self.grounds = {need: True for need in needs_of(step)}
        for marks, proof in zip(fresh_marks, proofs):
            for need in proof.grounds:
                if need not in marks and need not in made:
                    self.grounds[need] = True
        for word in made:
            self.words[word] = True


def tree_of(question, proof):
    """The tree of a proof of the question."""
    known = len(question.facts)
    steps, nexts = [], []
    waiting = [(proof, {fact: fact for fact in range(known)}, known, 0)]
    while len(waiting) > 0:
        here, numbers, known, above = waiting.pop()
        node = len(steps)
        if node > 0:
            nexts[above].append(node)
        steps.append(renumbered(here.step, numbers))
        nexts.append([])
        for marks, further in reversed(list(zip(here.fresh_marks, here.proofs))):
            more = {mark: known + at for at, mark in enumerate(marks)}
            waiting.append((further, {**numbers, **more}, known + len(marks), node))
    return tuple([node_of(step, tuple(named)) for step, named in zip(steps, nexts)])
