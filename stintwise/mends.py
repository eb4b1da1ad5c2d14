"""What becomes of a plan when a machine falls."""

from stintwise.ledgers import plan_cost
from stintwise.plans import position_behind
from stintwise.states import state_felled
from stintwise.whole import cheapest_plan


def position_felled(works, position, machine, hours):
    """The position ahead of an hour when the machine of that place falls then, for so many hours."""
    states = list(position[0])
    states[machine] = state_felled(works.machines[machine], states[machine], hours)
    return (tuple(states), position[1])


def mended(works, position, wants, plan, hour, machine, hours):
    """The tuple (cost, plan) of the hours up to the fall as they were and the cheapest ones behind it."""
    kept = plan[:hour]
    felled = position_felled(works, position_behind(works, position, kept), machine, hours)
    rest = cheapest_plan(works, felled, wants[hour:])
    return (plan_cost(works, position, wants[:hour], kept) + rest[0], kept + rest[1])
