"""Paths of a store: levels, one behind each hour; and a store alone, at given prices."""

from stintwise.more4 import first_row, shows_least, table_of, worths_by_hour
from stintwise.stores import drawn_by, levels_after, levels_from


def path_fault(store, level, path):
    """The first hour behind which the level can't be as the path says, or None."""
    for hour, later in enumerate(path):
        if later not in levels_from(store, level):
            return hour
        level = later
    return None


def path_worth(store, level, prices, path):
    """The sum of price times what the store takes in of all hours."""
    worth = 0
    for price, later in zip(prices, path):
        worth += price * drawn_by(store, level, later)
        level = later
    return worth


def level_ways(store, level, price):
    """The list of tuples (level behind, the same, worth) of what the next hour may be."""
    return [(later, later, price * drawn_by(store, level, later)) for later in levels_from(store, level)]


def worths_of_levels(store, level, prices):
    """For each hour and the end a dict of the levels that there can be, each with its least worth."""
    layers = [levels_after(store, level, hours) for hours in range(len(prices) + 1)]
    return worths_by_hour(layers, lambda hour, place: level_ways(store, place, prices[hour]))


def cheapest_path(store, level, prices):
    """The tuple (worth, path) of the first path of least worth."""
    worths = worths_of_levels(store, level, prices)
    path = first_row(level, worths, lambda hour, place: level_ways(store, place, prices[hour]))
    return (worths[0][level], path)


def path_worths(store, level, prices):
    """For each hour and the end the rising list of tuples (level, least worth of the hours that are left)."""
    return table_of(worths_of_levels(store, level, prices))


def shows_path(store, level, prices, table, number):
    """Whether by this table no path from the level is worth less than the number."""
    return shows_least(level, len(prices), table, number, lambda hour, place: level_ways(store, place, prices[hour]))
