"""The cheapest plan of works for some hours."""

from stintwise.more4 import first_row, table_of, worths_by_hour
from stintwise.more8 import Halves, layers_of, running_of, wanted_of
from stintwise.shares import share_out


def costs_by_half(halves, position):
    """For each half of an hour and the end a dict of the places, each with the least cost from there to the end."""
    layers = layers_of(halves.works, position, len(halves.wants))
    return worths_by_hour(layers, lambda half, place: halves.ways_at(half, place))


def least_cost(works, position, wants):
    """The least cost of all plans without fault."""
    return costs_by_half(Halves(works, wants), position)[0][position]


def outputs_of(works, ons, wanted):
    """The tuple of what each machine makes where this is wanted of those that run."""
    shared = share_out(running_of(works, ons), wanted, works.lack)[0]
    return tuple([shared[ons[:at].count(1)] if on == 1 else 0 for at, on in enumerate(ons)])


def plan_of(works, level, wants, row):
    """The plan whose ons and levels, hour by hour and by turns, are the row."""
    plan = []
    for hour, want in enumerate(wants):
        ons = row[2 * hour]
        later = row[2 * hour + 1]
        plan.append((ons, outputs_of(works, ons, wanted_of(works, level, later, want)), later))
        level = later
    return plan


def cheapest_plan(works, position, wants):
    """The tuple (cost, plan) of the first plan of least cost, by its ons and levels."""
    halves = Halves(works, wants)
    costs = costs_by_half(halves, position)
    row = first_row(position, costs, lambda half, place: halves.ways_at(half, place))
    return (costs[0][position], plan_of(works, position[1], wants, row))


def plan_worths(works, position, wants):
    """For each hour and the end the rising list of tuples (position, least cost of the hours that are left)."""
    return table_of(costs_by_half(Halves(works, wants), position)[::2])
