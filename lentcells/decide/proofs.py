"""Trees of what a search found."""

from lentcells.solve.steps import node_of


def renumbered(step, numbers):
    """A step with other numbers of facts, by a dict or list of the new ones."""
    kind = step[0]
    if kind == "ring":
        return (kind, tuple([(numbers[fact], way) for fact, way in step[1]]))
    if kind == "apart":
        return step
    if kind in ("same", "outside"):
        return (kind, step[1], numbers[step[2]])
    return (kind, numbers[step[1]], *step[2:])


def tree_of(question, proof):
    """The tree of a proof of the question."""
    known = len(question.facts)
    numbers = {fact: fact for fact in range(known)}
    steps, nexts = [], []
    waiting = [(proof, 0, 0, known, 0)]
    while len(waiting) > 0:
        here, first, many, known, above = waiting.pop()
        # What stands there of other ways is overwritten: on each way the numbers of the search go up.
        for more in range(many):
            numbers[first + more] = known + more
        known += many
        node = len(steps)
        if node > 0:
            nexts[above].append(node)
        step, number, proofs = here
        steps.append(renumbered(step, numbers))
        nexts.append([])
        for added, further in reversed(list(proofs)):
            waiting.append((further, number, added, known, node))
    return tuple([node_of(step, tuple(named)) for step, named in zip(steps, nexts)])


def steps_of(proof):
    """The steps of all nodes of a proof."""
    found = []
    waiting = [proof]
    while len(waiting) > 0:
        step, number, proofs = waiting.pop()
        found.append(step)
        waiting.extend([further for added, further in proofs])
    return found


def size_of(proof):
    """How many nodes the tree of a proof has."""
    return len(steps_of(proof))


def uses_in(proof, known):
    """The different steps of a proof that use alls among the first `known` facts."""
    steps = [step for step in steps_of(proof) if step[0] == "at" and step[1] < known]
    return tuple(sorted(set(steps)))
