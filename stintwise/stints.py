"""The stints of a run, and all the runs that a machine has."""

from stintwise.errors import TooMany
from stintwise.states import may_be, state_after, ways_after


def stints_of(run):
    """The list of tuples (on, first, many) of the longest rows of alike hours."""
    stints = []
    first = 0
    for hour, on in enumerate(run):
        if hour + 1 == len(run) or run[hour + 1] != on:
            stints.append((on, first, hour + 1 - first))
            first = hour + 1
    return stints


def run_count(machine, state, hours):
    """How many runs the machine has from the state over so many hours."""
    return sum(ways_after(machine, state, hours).values())


def one_hour_on(machine, found):
    """All runs that are one hour longer, of a list of tuples (run, state behind it), in the same order."""
    longer = []
    for run, state in found:
        for on in (0, 1):
            if may_be(machine, state, on):
                longer.append((run + [on], state_after(machine, state, on)))
    return longer


def all_runs(machine, state, hours, most):
    """The list of the runs from the state over so many hours, refused where they are more than most."""
    # Counted ahead of listing, as there may be far too many to list; and as each run
    # can be gone on with, there are on the way never more than in the end.
    if run_count(machine, state, hours) > most:
        raise TooMany(most)
    found = [([], state)]
    for hour in range(hours):
        found = one_hour_on(machine, found)
    return [pair[0] for pair in found]
