"""How runs end, which claims they break, and where sharing and copying part."""

from lentcells.base.integers import is_index
from lentcells.errors import InvalidNumber
from lentcells.runs.runs import MOST, Run


def check_most(most):
    """Raise InvalidNumber if this is no number of steps."""
    if not is_index(most, MOST + 1):
        raise InvalidNumber(most)


def outcome(program, called, situation, *, most=100, copying=False, careless=False):
    """How a run ends within so many steps: at its end, by a fault, or not."""
    run = Run(program, called, situation, copying=copying, careless=careless)
    check_most(most)
    steps = run.advance_on(most=most)
    if run.is_done():
        return ("end", run.situation, steps)
    if run.fault is not None:
        return ("fault", run.inner, run.next_row, run.fault, steps)
    return ("long", steps)


def first_break(program, called, situation, *, most=100):
    """The first claim that is false in a run of so many steps, or its fault, or None."""
    run = Run(program, called, situation)
    check_most(most)
    while True:
        found = run.false_claim()
        if found is None and run.fault is not None:
            found = ("fault", run.inner, run.next_row, run.fault)
        if found is not None or run.is_done() or run.steps == most:
            return found
        run.advance()


def seen_of(run):
    """What of a run is compared with another one."""
    return (run.inner, run.next_row, run.fault, run.situation)


def parting(program, called, situation, *, most=100):
    """The least number of steps behind which careless sharing and copying are unlike, or None."""
    sharing = Run(program, called, situation, careless=True)
    copying = Run(program, called, situation, copying=True, careless=True)
    check_most(most)
    while seen_of(sharing) == seen_of(copying):
        if sharing.is_done() or sharing.fault is not None or sharing.steps == most:
            return None
        sharing.advance()
        copying.advance()
    return sharing.steps
