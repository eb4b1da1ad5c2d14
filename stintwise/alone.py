"""A machine alone, at given prices."""

from stintwise.more4 import first_row, table_of, worths_by_hour
from stintwise.runs import next_hours, run_cost
from stintwise.states import states_by_hour


def run_worth(machine, state, prices, run):
    """What the run costs less the gains of the hours in which the machine runs."""
    cost = run_cost(machine, state, run)
    return cost - sum([machine.gain(price) for price, on in zip(prices, run) if on == 1])


def hour_ways(machine, state, price):
    """The list of tuples (on, state behind, worth) of what the next hour may be."""
    return [(on, later, cost - on * machine.gain(price)) for on, later, cost in next_hours(machine, state)]


def worths_of_states(machine, state, prices):
    """For each hour and the end a dict of the states that there can be, each with its least worth."""
    layers = states_by_hour(machine, state, len(prices))
    return worths_by_hour(layers, lambda hour, place: hour_ways(machine, place, prices[hour]))


def cheapest_run(machine, state, prices):
    """The tuple (worth, run) of the first run of least worth."""
    worths = worths_of_states(machine, state, prices)
    run = first_row(state, worths, lambda hour, place: hour_ways(machine, place, prices[hour]))
    return (worths[0][state], run)


def run_worths(machine, state, prices):
    """For each hour and the end the rising list of tuples (state, least worth of the hours that are left)."""
    return table_of(worths_of_states(machine, state, prices))
