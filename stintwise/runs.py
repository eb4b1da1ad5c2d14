"""Runs of a machine: ones and noughts, one for each hour."""

from stintwise.errors import NotNow
from stintwise.states import may_be, state_after


def run_fault(machine, state, run):
    """The first hour at which the machine may not do as the run says, or None."""
    for hour, on in enumerate(run):
        if not may_be(machine, state, on):
            return hour
        state = state_after(machine, state, on)
    return None


def refuse_fault(machine, state, run):
    """Refuse a run with a fault, with the hour of the fault."""
    fault = run_fault(machine, state, run)
    if fault is not None:
        raise NotNow(fault)


def run_state(machine, state, run):
    """The state behind the run."""
    refuse_fault(machine, state, run)
    for on in run:
        state = state_after(machine, state, on)
    return state


def run_begins(machine, state, run):
    """The rising list of the hours at which the machine begins."""
    refuse_fault(machine, state, run)
    begins = []
    ahead = state[0]
    for hour, on in enumerate(run):
        if on == 1 and ahead == 0:
            begins.append(hour)
        ahead = on
    return begins


def run_cost(machine, state, run):
    """What the beginnings, the running and the resting of the run cost."""
    begins = len(run_begins(machine, state, run))
    return machine.begin * begins + machine.run * run.count(1) + machine.rest * run.count(0)


def next_hours(machine, state):
    """The list of tuples (on, state behind, cost) of what the next hour may be."""
    return [
        (on, state_after(machine, state, on), run_cost(machine, state, [on]))
        for on in (0, 1) if may_be(machine, state, on)
    ]
