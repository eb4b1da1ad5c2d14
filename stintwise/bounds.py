"""Bounds by prices, and what lies between such a bound and a plan."""

from stintwise.alone import cheapest_run
from stintwise.paths import cheapest_path, path_worth
from stintwise.plans import left_over
from stintwise.runs import run_cost


def least_of_machines(works, position, prices):
    """The list of the least worths that the machines' own rows can have."""
    return [cheapest_run(machine, state, prices)[0] for machine, state in zip(works.machines, position[0])]


def least_of_store(works, position, prices):
    """The least worth that the store's own row can have, 0 where there is none."""
    return 0 if works.store is None else cheapest_path(works.store, position[1], prices)[0]


def price_bound(works, position, wants, prices):
    """What the prices show that no plan costs less than."""
    wanted = sum([price * want for price, want in zip(prices, wants)])
    machines = sum(least_of_machines(works, position, prices))
    return wanted + machines + least_of_store(works, position, prices)


def row_worth(machine, state, prices, ons, outputs):
    """What a machine's own row of a plan is worth."""
    worth = run_cost(machine, state, ons)
    for price, on, output in zip(prices, ons, outputs):
        if on == 1:
            worth += machine.cost_at(output) - price * output
    return worth


def machine_worths(works, position, plan, prices):
    """The list of what the machines' own rows of the plan are worth."""
    worths = []
    for at, machine in enumerate(works.machines):
        ons = [planned[0][at] for planned in plan]
        outputs = [planned[1][at] for planned in plan]
        worths.append(row_worth(machine, position[0][at], prices, ons, outputs))
    return worths


def store_worth(works, position, plan, prices):
    """What the store's own row of the plan is worth, 0 where there is none."""
    path = [planned[2] for planned in plan]
    return 0 if works.store is None else path_worth(works.store, position[1], prices, path)


def price_gaps(works, position, wants, plan, prices):
    """The tuple (machines, store, wastes, lacks) of the parts that lie between the bound and the plan's cost."""
    worths = machine_worths(works, position, plan, prices)
    machines = [worth - least for worth, least in zip(worths, least_of_machines(works, position, prices))]
    store = store_worth(works, position, plan, prices) - least_of_store(works, position, prices)
    left = left_over(works, position, wants, plan)
    wastes = [price * over[0] for price, over in zip(prices, left)]
    lacks = [(works.lack - price) * over[1] for price, over in zip(prices, left)]
    return (machines, store, wastes, lacks)
