"""Which step a search for a smaller tree does next, by what the tightest bounds tell."""

from lentcells.decide.branching import Growth, bits_of
from lentcells.decide.deriving import derived_step, with_derived
from lentcells.decide.ways import Known, both_ways, closing_nodes, form_of, spare_nodes

# So many steps are looked at closely, those with the fewest ways.
TRIES = 32


class Option:
    """A step that opens cases: the fact that has them, the ways in which they can be true, and the nodes of others."""

    def __init__(self, step, number, ways, nodes):
        self.step = step
        self.number = number
        self.ways = ways
        self.spare = nodes


class Plan:
    """What is done next.

    A plan that is looking looks at what each case makes of what stands to be done; for another one the fewest cases
    are best. Cases of what is unlike are opened only if there are no others, and, if it is `last`, only behind holding
    terms apart that are so in the greater proof.
    """

    def __init__(self, looking, last):
        self._looking = looking
        self._last = last
        # Whether a plan that is the same but for `last` would have gone another way.
        self.hung_on_last = False
        self._form_by_mark = {}
        self._growth = Growth()

    def _form(self, search, number):
        mark = search.mark_at(number)
        if mark not in self._form_by_mark:
            self._form_by_mark[mark] = form_of(search.told[number])
        return self._form_by_mark[mark]

    def next_step(self, search):
        """The next step, or None if there is none."""
        step = search.next_use()
        if step is not None:
            return step
        forms = [(number, self._form(search, number)) for number, role in enumerate(search.roles) if role == "cases"]
        unlike = [(form[1], both_ways(form)) for number, form in forms if form[0] == "unlike"]
        known = Known(search.near, search.rich, unlike)
        left = [(number, form, known.ways_of(form)) for number, form in forms if not known.is_true(form)]
        closed = [(closing_nodes(known, form), number) for number, form, ways in left if len(ways) == 0]
        if len(closed) > 0:
            return ("cases", min(closed)[1])
        step = derived_step(search, known)
        if step is not None:
            return step
        single = [number for number, form, ways in left if len(ways) == 1]
        return ("cases", single[0]) if len(single) > 0 else self._split(search, known, left)

    def _split(self, search, known, left):
        options, unlike = [], []
        for number, form, ways in left:
            group = unlike if form[0] == "unlike" else options
            group.append(Option(("cases", number), number, ways, spare_nodes(known, form)))
        aparts = aparts_in(search, known)
        if self._looking:
            options.extend(aparts_by(known, options))
        if len(options) == 0 and len(aparts) > 0 and len(unlike) > 0:
            self.hung_on_last = True
        for group in (options, aparts, unlike) if self._last else (options, unlike, aparts):
            if len(group) > 0:
                group = sorted(group, key=lambda option: len(option.ways))
                return self._cheapest(search, known, left, group[:TRIES]) if self._looking else group[0].step
        return None

    def _cheapest(self, search, known, left, options):
        behind = [bits_behind(search, known, left, option) for option in options]
        self._growth.find_rate(sum([bits_of(len(ways)) for number, form, ways in left]), behind)
        best, fewest = None, None
        for option, found in zip(options, behind):
            nodes = option.spare + self._growth.nodes_behind(found)
            if best is None or nodes < fewest:
                best, fewest = option.step, nodes
        return best


def bits_behind(search, known, left, option):
    """The pairs of what is left behind each way of an option."""
    rest = [form for number, form, ways in left if number != option.number]
    return [bits_left(search, known, rest, way) for way in option.ways]


def bits_left(search, known, forms, way):
    """How much stands to be done behind a way, and 0; or None, and about how many nodes close it then."""
    behind = known.with_way(way)
    if behind is not None and any([of_positions for of_positions, difference in way]):
        behind = with_derived(search, behind)
    if behind is None:
        return None, 1
    bits = 0
    for form in forms:
        if not behind.is_true(form):
            many = len(behind.ways_of(form))
            if many == 0:
                return None, closing_nodes(behind, form)
            bits += bits_of(many)
    return bits, 0


def aparts_by(known, options):
    """Options to hold terms apart that are compared in one of the ways of others."""
    found = {}
    for option in options:
        for way in option.ways:
            for pair in compared_in([difference for of_positions, difference in way if of_positions]):
                found[pair] = True
    made = [apart_option(known, one, other) for one, other in found]
    return [option for option in made if len(option.ways) > 1]


def compared_in(differences):
    """The pairs of terms that are equal at the edges of what one difference, or two that say one thing, leave."""
    if len(differences) == 0:
        return []
    one, other, most = differences[0]
    if len(differences) == 1:
        return [equal_pair(one, other, most), equal_pair(one, other, most + 1)]
    return [equal_pair(one, other, most)] if differences[1:] == [(other, one, -most)] else []


def equal_pair(one, other, most):
    """The terms that are equal if one point exceeds another one by so much, the same two for both directions."""
    return ((one, 0), (other, most)) if one > other else ((other, 0), (one, -most))


def apart_option(known, one, other):
    """The option to hold two terms apart."""
    word, further, most = one[0], other[0], other[1] - one[1]
    low, high = (word, further, most), (further, word, -most)
    cases = (((word, further, most - 1),), ((further, word, -most - 1),), (low, high))
    ways = [way for differences in cases for way in known.ways_of(("atom", True, differences))]
    return Option(("apart", one, other), None, ways, 1 + len(cases) - len(ways))


def aparts_in(search, known):
    """Options to hold terms apart of which the proof does so, where it is not known how they compare."""
    steps = [step for step in search.ground.apart_steps if search.has_terms(step[1:])]
    options = [apart_option(known, step[1], step[2]) for step in steps]
    return [option for option in options if len(option.ways) > 1]
