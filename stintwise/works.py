"""Works: machines and perhaps a store together, and the positions that they can have."""

from stintwise.errors import Wrong
from stintwise.machines import Machine
from stintwise.states import is_state, state_after
from stintwise.stores import Store, drawn_by, levels_after
from stintwise.wholes import is_amount, is_whole

MOST_MACHINES = 6


def are_machines(thing):
    """Whether the thing is a list of machines that works may have."""
    if not isinstance(thing, list) or len(thing) > MOST_MACHINES:
        return False
    return all([isinstance(machine, Machine) for machine in thing])


class Works:
    """Machines, a store or None, and the price of what is lacking; it never changes, its fields are for reading."""

    def __init__(self, machines, store, lack):
        is_store = store is None or isinstance(store, Store)
        for at, fits in enumerate([are_machines(machines), is_store, is_amount(lack)]):
            if not fits:
                raise Wrong(at)
        self.machines = list(machines)
        self.store = store
        self.lack = lack


def is_level(works, thing):
    """Whether the thing is a level of the works' store, or 0 where there is none."""
    cap = 0 if works.store is None else works.store.cap
    return is_whole(thing) and 0 <= thing <= cap


def are_states(works, thing):
    """Whether the thing is a tuple with a state of each machine."""
    if not isinstance(thing, tuple) or len(thing) != len(works.machines):
        return False
    return all([is_state(machine, state) for machine, state in zip(works.machines, thing)])


def is_position(works, thing):
    """Whether the thing is a position (states, level) of the works."""
    if not isinstance(thing, tuple) or len(thing) != 2:
        return False
    return are_states(works, thing[0]) and is_level(works, thing[1])


def later_levels(works, level, hours):
    """The rising list of the levels that there can be behind so many hours, [0] where there is no store."""
    return [0] if works.store is None else levels_after(works.store, level, hours)


def next_levels(works, level):
    """The rising list of the levels that there can be behind an hour, [0] where there is no store."""
    return later_levels(works, level, 1)


def drawn_in(works, level, later):
    """The amount that the store takes in, below 0 where it gives out, 0 where there is none."""
    return 0 if works.store is None else drawn_by(works.store, level, later)


def position_after(works, position, ons, level):
    """The position behind an hour in which the machines run or rest so and the store comes to this level."""
    states = [state_after(machine, state, on) for machine, state, on in zip(works.machines, position[0], ons)]
    return (tuple(states), level)
