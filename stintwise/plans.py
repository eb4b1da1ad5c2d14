"""Plans: what the machines and the store do, hour by hour."""

from stintwise.states import may_be
from stintwise.works import drawn_in, next_levels, position_after


def output_fits(machine, on, output):
    """Whether the machine can make so much where it runs, or so makes nothing where it rests."""
    if on == 0:
        return output == 0
    return machine.least <= output <= machine.most()


def hour_fault(works, position, hour, planned):
    """The first fault of an hour from the position on, or None."""
    for at, machine in enumerate(works.machines):
        if not may_be(machine, position[0][at], planned[0][at]):
            return ("run", hour, at)
    for at, machine in enumerate(works.machines):
        if not output_fits(machine, planned[0][at], planned[1][at]):
            return ("output", hour, at)
    if planned[2] not in next_levels(works, position[1]):
        return ("level", hour)
    return None


def plan_fault(works, position, wants, plan):
    """The first fault of the plan, or None."""
    if len(plan) != len(wants):
        return ("hours",)
    for hour, planned in enumerate(plan):
        fault = hour_fault(works, position, hour, planned)
        if fault is not None:
            return fault
        position = position_after(works, position, planned[0], planned[2])
    return None


def positions_of(works, position, plan):
    """The list of the positions ahead of each hour of the plan, and of the one behind it."""
    positions = [position]
    for ons, outputs, level in plan:
        position = position_after(works, position, ons, level)
        positions.append(position)
    return positions


def position_behind(works, position, plan):
    """The position behind the last hour of the plan."""
    return positions_of(works, position, plan)[-1]


def left_in_hour(works, level, want, planned):
    """The tuple (waste, lacking) of an hour ahead of which the store has this level."""
    over = sum(planned[1]) - want - drawn_in(works, level, planned[2])
    return (max(over, 0), max(-over, 0))


def left_over(works, position, wants, plan):
    """The list of tuples (waste, lacking), one for each hour."""
    positions = positions_of(works, position, plan)
    return [left_in_hour(works, ahead[1], want, planned) for ahead, want, planned in zip(positions, wants, plan)]
