"""A machine alone, at given prices."""

from stintwise.more4 import first_row, table_of, worths_by_hour
from stintwise.runs import run_cost
from stintwise.states import may_be, state_after, states_after


def run_worth(machine, state, prices, run):
    """What the run costs less the gains of the hours in which the machine runs."""
    cost = run_cost(machine, state, run)
    return cost - sum([machine.gain(price) for price, on in zip(prices, run) if on == 1])


def hour_ways(machine, state, price):
    """The list of tuples (on, state behind, worth) of what the next hour may be."""
    return [
        (on, state_after(machine, state, on), run_worth(machine, state, [price], [on]))
        for on in (0, 1) if may_be(machine, state, on)
    ]


def worths_of_states(machine, state, prices):
    """For each hour and the end a dict of the states that there can be, each with its least worth."""
    layers = [states_after(machine, state, hours) for hours in range(len(prices) + 1)]
    return worths_by_hour(layers, lambda hour, place: hour_ways(machine, place, prices[hour]))


def cheapest_run(machine, state, prices):
    """The tuple (worth, run) of the first run of least worth."""
    worths = worths_of_states(machine, state, prices)
    run = first_row(state, worths, lambda hour, place: hour_ways(machine, place, prices[hour]))
    return (worths[0][state], run)


def run_worths(machine, state, prices):
    """For each hour and the end the rising list of tuples (state, least worth of the hours that are left)."""
    return table_of(worths_of_states(machine, state, prices))
