"""A desk: functions that are changed, with verdicts, claims that hold behind each change, and going back."""

from lentcells.base.integers import check_undo
from lentcells.code.functions import Function
from lentcells.code.programs import Program
from lentcells.desk.stock import Stock, is_desk_claim
from lentcells.errors import InvalidFunction, InvalidOperation, Refused, TooMany, UnknownName

MAX_FUNCTIONS = 6
MAX_CLAIMS = 8


def check_functions(functions):
    """Raise InvalidFunction if this is no tuple of one or more functions with different names."""
    if not isinstance(functions, tuple) or len(functions) == 0:
        raise InvalidFunction("this is no tuple of functions")
    if not all([isinstance(function, Function) for function in functions]):
        raise InvalidFunction("these are no functions")
    if len(set([function.called for function in functions])) < len(functions):
        raise InvalidFunction("two functions have one name")


class Desk:
    """Functions under their names, and claims about them."""

    def __init__(self):
        self._now = Stock({}, (), {})
        self._past = ()
        self._ahead = ()

    def _change(self, stock):
        old = self._now
        self._past = (*self._past, old)
        self._ahead = ()
        self._now = stock
        return stock.news_behind(old)

    def put(self, functions):
        """Take these functions, each in the place of the one with its name."""
        check_functions(functions)
        made = {**self._now.function_by_name, **{function.called: function for function in functions}}
        if len(made) > MAX_FUNCTIONS:
            raise TooMany(MAX_FUNCTIONS)
        return self._change(self._now.with_functions(made))

    def take(self, name):
        """Go on without a function."""
        self._check_name(name)
        functions = self._now.function_by_name
        rest = {called: functions[called] for called in functions if called != name}
        return self._change(self._now.with_functions(rest))

    def _check_name(self, name):
        if not isinstance(name, str) or name not in self._now.function_by_name:
            raise UnknownName(name)

    def revise(self, name, change):
        """Take what `change` returns for a function in its place."""
        self._check_name(name)
        function = change(self._now.function_by_name[name])
        if not isinstance(function, Function):
            raise InvalidFunction("this is no function")
        if function.called != name:
            raise InvalidOperation("the function has another name")
        return self.put((function,))

    def demand(self, claim):
        """Let a claim hold behind each change from now on."""
        if not is_desk_claim(claim) or claim in self._now.demanded:
            raise InvalidOperation("this is no claim, or it is there already")
        for called in claim[1:]:
            self._check_name(called)
        if len(self._now.demanded) >= MAX_CLAIMS:
            raise TooMany(MAX_CLAIMS)
        if not self._now.holds(claim):
            raise Refused(claim)
        return self._change(self._now.demanding((*self._now.demanded, claim)))

    def waive(self, claim):
        """Let a claim go."""
        if not is_desk_claim(claim) or claim not in self._now.demanded:
            raise InvalidOperation("this claim is not there")
        return self._change(self._now.demanding(tuple([other for other in self._now.demanded if other != claim])))

    def undo(self, *, many=1):
        """Take so many changes back."""
        check_undo(many, len(self._past))
        left = len(self._past) - many
        states = (*self._past, self._now, *self._ahead)
        return self._stand_at(states, left)

    def redo(self, *, many=1):
        """Do so many changes again that were taken back."""
        check_undo(many, len(self._ahead))
        states = (*self._past, self._now, *self._ahead)
        return self._stand_at(states, len(self._past) + many)

    def _stand_at(self, states, place):
        old = self._now
        self._past, self._now, self._ahead = states[:place], states[place], states[place + 1:]
        return self._now.news_behind(old)

    def during(self, call):
        """What `call` returns for the desk, which is behind it as ahead of it."""
        now, past, ahead = self._now, self._past, self._ahead
        try:
            return call(self)
        finally:
            self._now, self._past, self._ahead = now, past, ahead

    def twin(self):
        """An independent copy, with all changes to take back and to do again."""
        made = Desk()
        made._now, made._past, made._ahead = self._now, self._past, self._ahead
        return made

    def whole(self):
        """The program of the functions."""
        if len(self._now.called_names) == 0:
            raise InvalidOperation("there is no function")
        return Program(tuple(self._now.function_by_name.values()))

    def callers(self, called):
        """The ascending names of the functions that call a function."""
        self._check_name(called)
        functions = self._now.function_by_name
        return tuple([name for name in functions if called in functions[name].callees])

    @property
    def names(self):
        """The ascending names of the functions."""
        return self._now.called_names

    @property
    def claims(self):
        """The claims in the order of their demands."""
        return self._now.demanded

    @property
    def verdicts(self):
        """The dict from the names to the verdicts."""
        found = self._now.verdict_by_name
        return {called: found[called] for called in found}

    def __getitem__(self, name):
        self._check_name(name)
        return self._now.function_by_name[name]

    def __contains__(self, value):
        if isinstance(value, str):
            return value in self._now.function_by_name
        return is_desk_claim(value) and value in self._now.demanded

    def __len__(self):
        return len(self._now.called_names)

    def __iter__(self):
        return iter(self._now.called_names)

    def __eq__(self, other):
        if not isinstance(other, Desk) or self._now.demanded != other._now.demanded:
            return False
        return self._now.function_by_name == other._now.function_by_name

    def __str__(self):
        return f"desk of {len(self._now.called_names)} functions, {len(self._now.demanded)} claims"
