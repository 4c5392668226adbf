"""In how many ways claims can be true, by the tightest bounds of what is known.

The form of a claim is ("atom", of_positions, differences); ("unlike", of_positions, low, high) for terms that are not
equal, with the differences of both cases; ("any", forms, cover) and ("all", forms); or ("more",) for what no bounds
can tell. A cover is None, or tells when the parts leave nothing out.
A literal is a pair (of_positions, difference), and a way is a list of literals that are true together.
"""

from lentcells.decide.covers import cover_of, is_covered
from lentcells.decide.search import is_of_positions
from lentcells.logic.forms import ATOMS
from lentcells.solve.points import said_by
from lentcells.solve.steps import cases_of, parts_of


def form_of(claim):
    """The form of a claim."""
    said = said_by(claim)
    if len(said) > 0:
        return ("atom", is_of_positions(claim), said)
    cases = cases_of(claim)
    if cases is None:
        parts = parts_of(claim)
        is_joined = len(parts) > 0 or claim[0] == "and" or (claim[0] == "not" and claim[1][0] == "or")
        return ("all", tuple([form_of(part) for part in parts])) if is_joined else ("more",)
    if claim[0] == "not" and claim[1][0] in ATOMS:
        return ("unlike", is_of_positions(claim), said_by(cases[0])[0], said_by(cases[1])[0])
    parts = tuple([form_of(case) for case in cases])
    return ("any", parts, cover_of(parts))


def both_ways(form):
    """The difference that two terms are equal if it is true in both directions, of a form of what is unlike."""
    one, other, most = form[2]
    return one, other, most + 1


class Known:
    """Bounds of positions and of values, and what is known to be unlike besides."""

    def __init__(self, spans, worths, unlike):
        self.spans = spans
        self.worths = worths
        # Pairs (of_positions, difference) that are not true in both directions.
        self._unlike = unlike

    def with_way(self, way):
        """What is known if a way is true, too, or None if it can't be."""
        spans, worths = self.spans, self.worths
        if any([of_positions for of_positions, difference in way]):
            spans = spans.copied()
        if not all([of_positions for of_positions, difference in way]):
            worths = worths.copied()
        for of_positions, difference in way:
            reach = spans if of_positions else worths
            if not reach.take(difference):
                return None
        return Known(spans, worths, self._unlike)

    def reach(self, of_positions):
        """The bounds of positions, or those of values."""
        return self.spans if of_positions else self.worths

    def ways_of(self, form):
        """The ways in which a claim with this form can be true."""
        kind = form[0]
        if kind == "atom":
            return [] if self._is_barred(form[1], form[2]) else [[(form[1], said) for said in form[2]]]
        if kind == "unlike":
            return [[(form[1], said)] for said in form[2:] if not self.reach(form[1]).bars(said)]
        if kind == "any":
            return [way for part in form[1] for way in self.ways_of(part)]
        return [[]] if kind == "more" else self._ways_of_all(form[1])

    def _ways_of_all(self, parts):
        # Parts with several ways are left for later: they are told as facts of their own then.
        way = []
        for part in parts:
            found = self.ways_of(part)
            if len(found) == 0:
                return []
            if len(found) == 1:
                way.extend(found[0])
        return [way]

    def _is_barred(self, of_positions, differences):
        reach = self.reach(of_positions)
        for difference in differences:
            if reach.bars(difference):
                return True
        for kind, (one, other, most) in self._unlike:
            if kind == of_positions and follows_with(reach, differences, (one, other, most)):
                if follows_with(reach, differences, (other, one, -most)):
                    return True
        return False

    def is_true(self, form):
        """Whether a claim with this form is true by what is known."""
        kind = form[0]
        if kind == "any":
            return self._has_part(form[1], True) or self._is_covered(form[2])
        if kind == "all":
            return not self._has_part(form[1], False)
        if kind == "more":
            return False
        reach = self.reach(form[1])
        if kind == "atom":
            return all([reach.says(said) for said in form[2]])
        return reach.says(form[2]) or reach.says(form[3])

    def _is_covered(self, cover):
        if cover is None:
            return False
        of_positions, points, spans = cover
        one, other = points
        reach = self.reach(of_positions)
        most = reach.gap(other, one)
        return is_covered(None if most is None else -most, reach.gap(one, other), spans)

    def _has_part(self, parts, wanted):
        for part in parts:
            if self.is_true(part) == wanted:
                return True
        return False


def follows_with(reach, differences, wanted):
    """Whether a difference is true by what is known, and one of these differences besides."""
    if reach.says(wanted):
        return True
    one, other, most = wanted
    for low, high, more in differences:
        ahead, behind = reach.gap(one, low), reach.gap(high, other)
        if ahead is not None and behind is not None and ahead + more + behind <= most:
            return True
    return False


def closing_nodes(known, form):
    """About how many nodes close the ways of a claim that has none."""
    kind = form[0]
    if kind == "unlike":
        return 1 + len(form[2:])
    if kind == "any":
        return 1 + sum([closing_nodes(known, part) for part in form[1]])
    if kind == "all":
        return 1 + min([closing_nodes(known, part) for part in form[1] if len(known.ways_of(part)) == 0])
    # What is barred by a bound takes one ring, what is so by what is unlike both cases of this besides.
    return 1 if any([known.reach(form[1]).bars(said) for said in form[2]]) else 4


def spare_nodes(known, form):
    """About how many nodes the cases of a claim have besides those of its ways."""
    if form[0] == "unlike":
        return 1 + len(form[2:]) - len(known.ways_of(form))
    return 1 + sum([closing_nodes(known, part) for part in form[1] if len(known.ways_of(part)) == 0])
