"""States of a machine: whether it ran in the hour ahead, and what is due."""

from stintwise.errors import NotNow
from stintwise.wholes import is_whole

LONGEST_REST_DUE = 59


def is_state(machine, thing):
    """Whether the thing is a state (on, due) of the machine."""
    if not isinstance(thing, tuple) or len(thing) != 2:
        return False
    if not is_whole(thing[0]) or not is_whole(thing[1]):
        return False
    if thing[0] == 1:
        return 0 <= thing[1] < machine.up
    return thing[0] == 0 and 0 <= thing[1] <= LONGEST_REST_DUE


def may_be(machine, state, on):
    """Whether the next hour may be one in which the machine runs (1) or rests (0)."""
    return state[0] == on or state[1] == 0


def state_after(machine, state, on):
    """The state behind an hour in which the machine runs (1) or rests (0)."""
    if not may_be(machine, state, on):
        raise NotNow(0)
    if state[0] == on:
        return (on, max(state[1] - 1, 0))
    if on == 1:
        return (1, machine.up - 1)
    return (0, machine.down - 1)


def ways_one_on(machine, ways):
    """The dict of ways_after for one hour more."""
    later = {}
    for state, many in ways.items():
        for on in (0, 1):
            if may_be(machine, state, on):
                behind = state_after(machine, state, on)
                later[behind] = later.get(behind, 0) + many
    return later


def ways_after(machine, state, hours):
    """A dict of the states that there can be behind so many hours, each with how many runs lead to it."""
    ways = {state: 1}
    for hour in range(hours):
        ways = ways_one_on(machine, ways)
    return ways


def states_after(machine, state, hours):
    """The rising list of the states that there can be behind just so many hours."""
    return sorted(ways_after(machine, state, hours))


def states_by_hour(machine, state, hours):
    """The list of what states_after tells of 0, 1 .. hours, up to so many."""
    ways = {state: 1}
    layers = [[state]]
    for hour in range(hours):
        ways = ways_one_on(machine, ways)
        layers.append(sorted(ways))
    return layers


def state_felled(machine, state, hours):
    """The state ahead of an hour when the machine falls then, for so many hours."""
    rest = machine.down if state[0] == 1 else state[1]
    return (0, max(hours, rest))
