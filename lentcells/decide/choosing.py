"""Which step a search does next: one that opens as few cases as possible, where its sketch breaks something."""

from lentcells.decide.agree import Soft, is_unlike, soft_pairs
from lentcells.decide.search import is_of_positions
from lentcells.decide.sketch import Sketch, known_spots, numbers_for
from lentcells.logic.forms import cells_in
from lentcells.logic.putting import opened_all
from lentcells.solve.points import said_by
from lentcells.solve.steps import cases_of, parts_of

# So many ways to use alls are looked at closely.
TRIES = 12


def below(one, other):
    """The claim that one position term is less than another one."""
    return ("pos", "<", one, other)


def literals_in(claim):
    """The atoms, and nots of atoms, that are true if the claim is, as far as they stand in it without cases."""
    if len(said_by(claim)) > 0:
        return [claim]
    return [literal for part in parts_of(claim) for literal in literals_in(part)]


def differences_in(literals, positions):
    """The differences that those of the literals say that are of positions, or those that are of values."""
    chosen = [claim for claim in literals if is_of_positions(claim) == positions]
    return [difference for claim in chosen for difference in said_by(claim)]


def is_clash(search, literals):
    """Whether differences that are known close a ring with these literals."""
    if search.spans.clash(differences_in(literals, True)):
        return True
    return search.worths.clash(differences_in(literals, False))


def weight(search, claim):
    """In how many ways a claim can be true, as far as single literals tell it."""
    cases = cases_of(claim)
    if cases is not None:
        return sum([weight(search, case) for case in cases])
    if is_clash(search, literals_in(claim)):
        return 0
    return min([1] + [weight(search, part) for part in parts_of(claim)])


def cells_at(body, own, terms):
    """The cells that a body reads with these terms in the place of its own names."""
    given = {word: term for word, term in zip(own, terms)}
    return [(cell[0], *given[cell[1]]) for cell in cells_in(body) if cell[1] in given]


class Choosing:
    """What stands to be done on the way of a search."""

    def __init__(self, search):
        self._search = search
        self._done = [turn.done for turn in search.turns]
        self._used = {step[1:]: True for step in self._done if step[0] == "at"}
        frame = search.base
        apart = [(number, fact) for number, fact in self.numbered("cases") if is_unlike(fact)]
        worths_apart = [pair for pair in apart if not is_of_positions(pair[1])]
        spans, worths = Soft(search.spans), Soft(search.worths)
        spans.keep_apart([pair for pair in apart if is_of_positions(pair[1])])
        if search.spreading:
            spans.spread([*[(word, 0) for word in search.made], *search.seats])
        numbers = numbers_for(frame, search.made, spans.fit())
        cells = sorted(set(search.worths.cells() + [cell for number, fact in worths_apart for cell in cells_in(fact)]))
        self._cells = {cell: True for cell in cells}
        worths.keep_equal(soft_pairs(frame, numbers, cells))
        worths.keep_apart(worths_apart)
        contents = worths.fit()
        self._soft = spans.failed() + worths.failed()
        self._seats = {}
        for term in [*search.seats, *[(word, 0) for word in search.made]]:
            self._seats.setdefault(numbers[term[0]] + term[1], []).append(term)
        amounts = {word: contents.get(word, 0) for word in ("", *frame.amounts)}
        spots = known_spots(frame, numbers, cells, contents)
        self.sketch = Sketch(frame, spots, numbers, amounts, sorted(self._seats))

    def numbered(self, role):
        """The pairs (number, fact) of the facts with a role."""
        told = self._search.told
        return [(number, told[number]) for number, found in enumerate(self._search.roles) if found == role]

    def cases(self):
        """The pairs (weight, step) for facts with cases that are false, or that have one case that can be so."""
        found = []
        for number, fact in self.numbered("cases"):
            if not self.sketch.holds(fact):
                many = weight(self._search, fact)
                if many <= 1:
                    return [(many, ("cases", number))]
                if not is_unlike(fact):
                    found.append((many, ("cases", number)))
        return found

    def uses(self):
        """The pairs (weight, step) for alls that are false, where few new cells come up."""
        ways = [way for number, fact in self.numbered("at") for way in self._uses_of(number, fact)]
        found = []
        for new, number, terms in sorted(ways)[:TRIES]:
            found.append((self._weight_at(number, terms), ("at", number, terms)))
            if found[-1][0] <= 1:
                return found[-1:]
        return found

    def _uses_of(self, number, fact):
        found = []
        for at in self.sketch.misses(fact):
            for terms in self._terms_at(at):
                if (number, terms) not in self._used:
                    new = [cell for cell in cells_at(fact[3], fact[1], terms) if cell not in self._cells]
                    found.append((len(new), number, terms))
        return found

    def _terms_at(self, at):
        if len(at) == 1:
            return [(one,) for one in self._seats[at[0]]]
        return [(one, other) for one in self._seats[at[0]] for other in self._seats[at[1]]]

    def _weight_at(self, number, terms):
        return weight(self._search, self._used_at(number, terms))

    def _used_at(self, number, terms):
        guard, body = opened_all(self._search.base, self._search.told[number], terms)
        return ("or", (("not", guard), body))

    def partings(self):
        """The pairs (weight, step) for what is equal in the sketch, but not known to be."""
        found = []
        for reason in self._soft:
            if reason[0] == "same":
                found.extend(self._steps_for_same(reason[1], reason[2], reason[3]))
            elif reason[0] == "unlike":
                # Last, if there is anything else: where two cells are at one position these cases close at once.
                found.append((2 if len(found) == 0 else 4, ("cases", reason[1])))
            else:
                found.extend(self._steps_for_outside(reason[1], reason[2]))
        return found

    def _steps_for_same(self, array, one, other):
        facts = [("pos", "==", one, other), ("pos", "==", other, one)]
        return self._steps_by("same", array, facts, (below(one, other), below(other, one)), (one, other))

    def _steps_for_outside(self, array, term):
        length = self._search.base.length_of(array)
        fact = below(term, ("", 0))
        if not self.sketch.holds(fact):
            fact = below((length, -1), term)
        one, other = fact[2:]
        others = (below(other, one), ("pos", "==", one, other))
        return self._steps_by("outside", array, [fact], others, (one, other))

    def _steps_by(self, kind, array, facts, others, pair):
        told = self._search.told
        steps = [(kind, array, told.index(fact)) for fact in facts if fact in told]
        if len(steps) > 0:
            return [(0, step) for step in steps if step not in self._done][:1]
        many = sum([weight(self._search, claim) for claim in others])
        # Where nothing else is only taken to be equal, the case in which both are equal closes at once.
        equal = [reason for reason in self._soft if reason[0] != "unlike"]
        return [(many + min([len(equal) - 1, 1]), ("apart", *pair))]


def lightest(pairs):
    """The first pair with the least weight, or None."""
    found = None
    for pair in pairs:
        if found is None or pair[0] < found[0]:
            found = pair
    return found


def next_step(choosing):
    """The step that is to be done next, or None if the sketch breaks nothing."""
    cases = choosing.cases()
    found = lightest(cases)
    if found is not None and found[0] <= 1:
        return found[1]
    uses = choosing.uses()
    use = lightest(uses)
    if use is not None and use[0] <= 1:
        return use[1]
    found = lightest(choosing.partings() + cases)
    if found is None:
        found = use
    return None if found is None else found[1]
