"""A machine or a store alone over some hours, one of which has no price yet.

What is drawn in an hour is what a store takes in (below 0 where it gives out), or what a machine makes, below 0: so
price times what is drawn is all that a price adds to the worth of an hour.
"""

from stintwise.more4 import worths_by_hour
from stintwise.runs import next_hours
from stintwise.states import states_by_hour
from stintwise.stores import drawn_by, levels_after, levels_from


class Lone:
    """What goes alone from place to place: its places by hour, and from each the ways (drawn, place behind, cost)."""

    def __init__(self, layers, ways):
        self.layers = layers
        self.ways = ways

    def priced_ways(self, place, price):
        """The list of tuples (drawn, place behind, worth) of what an hour at this price may be."""
        return [(drawn, later, cost + drawn * price) for drawn, later, cost in self.ways[place]]

    def worths_to_end(self, prices):
        """For each hour and the end a dict of the places, each with the least worth from there to the end."""
        return worths_by_hour(self.layers, lambda hour, place: self.priced_ways(place, prices[hour]))

    def worths_at_first(self):
        """A dict of the place ahead of the first hour: up to there nothing is worth anything."""
        return {self.layers[0][0]: 0}

    def worths_behind(self, ahead, price):
        """A dict of the places behind an hour, each with the least worth up to there, by that of the places ahead."""
        behind = {}
        for place, worth in ahead.items():
            for drawn, later, own in self.priced_ways(place, price):
                behind[later] = min(worth + own, behind.get(later, worth + own))
        return behind

    def worths_by_drawn(self, ahead, behind):
        """A dict of what can be drawn in an hour, each with the least worth of all hours but for the hour's price."""
        worths = {}
        for place, worth in ahead.items():
            for drawn, later, cost in self.ways[place]:
                whole = worth + cost + behind[later]
                worths[drawn] = min(whole, worths.get(drawn, whole))
        return worths


def corners_of(machine):
    """The list of the least output and of those at which a piece ends: at each price one of them gains most."""
    corners = [machine.least]
    for amount, rate in machine.pieces:
        corners.append(corners[-1] + amount)
    return corners


def ways_of_machine(machine, state):
    """The list of tuples (drawn, state behind, cost) of what the next hour may be."""
    ways = []
    for on, later, cost in next_hours(machine, state):
        if on == 0:
            ways.append((0, later, cost))
        else:
            ways.extend([(-output, later, cost + machine.cost_at(output)) for output in corners_of(machine)])
    return ways


def lone_machine(machine, state, hours):
    """The machine alone, from the state on."""
    layers = states_by_hour(machine, state, hours)
    ways = {}
    for layer in layers:
        for place in layer:
            if place not in ways:
                ways[place] = ways_of_machine(machine, place)
    return Lone(layers, ways)


def lone_store(store, level, hours):
    """The store alone, from the level on."""
    ways = {}
    for place in range(store.cap + 1):
        ways[place] = [(drawn_by(store, place, later), later, 0) for later in levels_from(store, place)]
    return Lone([levels_after(store, level, many) for many in range(hours + 1)], ways)


def lones_of(works, position, hours):
    """The list of the machines alone, and of the store where there is one."""
    lones = [lone_machine(machine, state, hours) for machine, state in zip(works.machines, position[0])]
    return lones if works.store is None else lones + [lone_store(works.store, position[1], hours)]
