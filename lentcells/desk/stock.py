"""What a desk has at one time: functions, claims and verdicts."""

from lentcells.base.frames import is_name
from lentcells.code.programs import Program
from lentcells.errors import Refused
from lentcells.loans.tables import Table
from lentcells.pieces.kept import is_kept
from lentcells.use.contracts import stands_in

# How many names stand behind the word of a claim.
NAMES_BEHIND = {"kept": 1, "sound": 1, "stands": 2, "calls": 2}


def is_desk_claim(value):
    """Whether the value has the form of a claim of a desk."""
    if not isinstance(value, tuple) or len(value) == 0 or not isinstance(value[0], str):
        return False
    if value[0] not in NAMES_BEHIND or len(value) != 1 + NAMES_BEHIND[value[0]]:
        return False
    return all([is_name(word) for word in value[1:]])


def verdict_of(program, called):
    """Whether a function is faulty, kept or broken."""
    if not Table(program, called).is_sound:
        return "faulty"
    return "kept" if is_kept(program, called) else "broken"


def outside_of(function):
    """All of a function on which the verdicts of its callers hang."""
    return (function.arrays, function.positions, function.amounts, function.before, function.after)


class Stock:
    """Functions by ascending names, which are a program, the claims that hold, and the verdicts; it never changes."""

    def __init__(self, function_by_name, demanded, verdict_by_name):
        self.function_by_name = {called: function_by_name[called] for called in sorted(function_by_name)}
        self.demanded = demanded
        self.verdict_by_name = {called: verdict_by_name[called] for called in sorted(verdict_by_name)}
        self.called_names = tuple(self.function_by_name)

    def with_functions(self, function_by_name):
        """The stock with these functions in the place of its own ones."""
        program = Program(tuple(function_by_name.values())) if len(function_by_name) > 0 else None
        verdicts = {}
        for called in sorted(function_by_name):
            # A verdict hangs on the function and on the contracts of those that it calls alone.
            if self._is_as_it_was(function_by_name, called):
                verdicts[called] = self.verdict_by_name[called]
            else:
                verdicts[called] = verdict_of(program, called)
        made = Stock(function_by_name, self.demanded, verdicts)
        for claim in self.demanded:
            if not self._holds_still(made, claim) and not made.holds(claim):
                raise Refused(claim)
        return made

    def _is_as_it_was(self, function_by_name, called):
        function = function_by_name[called]
        if called not in self.function_by_name or self.function_by_name[called] != function:
            return False
        for callee in function.callees:
            if outside_of(self.function_by_name[callee]) != outside_of(function_by_name[callee]):
                return False
        return True

    def _holds_still(self, made, claim):
        # What stands in hangs on both functions alone, and so does what calls what.
        if claim[0] not in ("stands", "calls"):
            return False
        return all([made.function_by_name.get(called) == self.function_by_name[called] for called in claim[1:]])

    def holds(self, claim):
        """Whether a claim holds; one that names what is not there does not."""
        if not all([called in self.function_by_name for called in claim[1:]]):
            return False
        if claim[0] == "kept":
            return self.verdict_by_name[claim[1]] == "kept"
        if claim[0] == "sound":
            return self.verdict_by_name[claim[1]] != "faulty"
        one, other = self.function_by_name[claim[1]], self.function_by_name[claim[2]]
        return stands_in(one, other) if claim[0] == "stands" else claim[2] in one.callees

    def demanding(self, demanded):
        """The stock with these claims in the place of its own ones."""
        return Stock(self.function_by_name, demanded, self.verdict_by_name)

    def news_behind(self, old):
        """The pairs (name, verdict) of the names that have another verdict than in an older stock."""
        names = sorted(set([*self.verdict_by_name, *old.verdict_by_name]))
        pairs = [(called, self.verdict_by_name.get(called)) for called in names]
        return tuple([pair for pair in pairs if pair[1] != old.verdict_by_name.get(pair[0])])
