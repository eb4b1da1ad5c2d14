"""What plans cost, hour by hour and all together, and one beside another."""

from stintwise.plans import left_in_hour, positions_of


def begin_costs(works, states, ons):
    """What the beginnings of an hour cost together."""
    return sum([
        machine.begin for machine, state, on in zip(works.machines, states, ons) if on == 1 and state[0] == 0
    ])


def hour_costs(works, position, want, planned):
    """The tuple of the five costs of an hour: beginnings, running, resting, making, what is lacking."""
    ons = planned[0]
    running = sum([machine.run for machine, on in zip(works.machines, ons) if on == 1])
    resting = sum([machine.rest for machine, on in zip(works.machines, ons) if on == 0])
    making = sum([
        machine.cost_at(output) for machine, on, output in zip(works.machines, ons, planned[1]) if on == 1
    ])
    lacking = works.lack * left_in_hour(works, position[1], want, planned)[1]
    return (begin_costs(works, position[0], ons), running, resting, making, lacking)


def ledger_of(works, position, wants, plan):
    """The list of the tuples of five costs, one for each hour."""
    positions = positions_of(works, position, plan)
    return [hour_costs(works, ahead, want, planned) for ahead, want, planned in zip(positions, wants, plan)]


def plan_cost(works, position, wants, plan):
    """What the plan costs."""
    return sum([sum(costs) for costs in ledger_of(works, position, wants, plan)])


def compared(works, position, wants, one, other):
    """The list of tuples (hour, more), the other's five costs less the one's, of the hours whose costs aren't alike."""
    ledger = ledger_of(works, position, wants, one)
    beside = ledger_of(works, position, wants, other)
    return [
        (hour, tuple([more - less for less, more in zip(ledger[hour], beside[hour])]))
        for hour in range(len(ledger)) if ledger[hour] != beside[hour]
    ]
