"""Whether a table shows that no run of a machine is worth less than a number."""

from stintwise.alone import hour_ways
from stintwise.more4 import shows_least


def shows_run(machine, state, prices, table, number):
    """Whether by this table no run from the state is worth less than the number."""
    return shows_least(state, len(prices), table, number, lambda hour, place: hour_ways(machine, place, prices[hour]))
