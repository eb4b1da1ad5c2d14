"""Hours of works in two halves: first the machines run or rest, then the store comes to its level.

So what may be in an hour is looked at for each half by itself, not for all of both together. A place ahead of an
hour is a position; a place amid an hour is a tuple (states behind the hour, level ahead of it).
"""

from stintwise.errors import TooMany
from stintwise.runs import next_hours
from stintwise.shares import share_cost
from stintwise.states import states_by_hour
from stintwise.works import drawn_in, later_levels, next_levels

MOST_POSITIONS = 5000


def wanted_of(works, level, later, want):
    """What is wanted of the running machines in an hour in which the store goes from the one level to the other."""
    return max(want + drawn_in(works, level, later), 0)


def running_of(works, ons):
    """The list of the machines that run."""
    return [machine for machine, on in zip(works.machines, ons) if on == 1]


def turns_from(works, states):
    """The list of tuples (ons, states behind, cost) of what the machines may do in an hour, rising."""
    turns = [((), (), 0)]
    for machine, state in zip(works.machines, states):
        longer = []
        for ons, behind, cost in turns:
            for on, later, own in next_hours(machine, state):
                longer.append((ons + (on,), behind + (later,), cost + own))
        turns = longer
    return turns


class Halves:
    """What the halves of the hours may be; what was reckoned once is kept, as it is asked for from many places."""

    def __init__(self, works, wants):
        self.works = works
        self.wants = list(wants)
        self.turns = {}
        self.shares = {}

    def turn_ways(self, place):
        """The list of tuples (ons, place amid the hour, cost) from a position."""
        states = place[0]
        if states not in self.turns:
            self.turns[states] = turns_from(self.works, states)
        return [(ons, (behind, place[1]), cost) for ons, behind, cost in self.turns[states]]

    def cost_of_share(self, ons, wanted):
        """What it costs to share out what is wanted of the machines that run."""
        asked = (ons, wanted)
        if asked not in self.shares:
            self.shares[asked] = share_cost(running_of(self.works, ons), wanted, self.works.lack)
        return self.shares[asked]

    def level_ways(self, hour, place):
        """The list of tuples (level, position behind the hour, cost) from a place amid the hour."""
        states = place[0]
        level = place[1]
        want = self.wants[hour]
        # A state behind an hour says itself whether the machine ran in it.
        ons = tuple([state[0] for state in states])
        return [
            (later, (states, later), self.cost_of_share(ons, wanted_of(self.works, level, later, want)))
            for later in next_levels(self.works, level)
        ]

    def ways_at(self, half, place):
        """The ways of a half, counted from 0 over all hours."""
        return self.turn_ways(place) if half % 2 == 0 else self.level_ways(half // 2, place)


def product_of(numbers):
    """All the numbers multiplied, 1 of none."""
    product = 1
    for number in numbers:
        product *= number
    return product


def refuse_too_many(rows, levels):
    """Refuse what has too many positions, by the states of each machine and the levels, hour by hour."""
    many = 0
    for hour, layer in enumerate(levels):
        many += len(layer) * product_of([len(row[hour]) for row in rows])
    if many > MOST_POSITIONS:
        raise TooMany(MOST_POSITIONS)


def all_states(choices):
    """The rising list of all tuples with one state of each list."""
    found = [()]
    for states in choices:
        longer = []
        for begun in found:
            longer.extend([begun + (state,) for state in states])
        found = longer
    return found


def places_of(joined, levels):
    """The rising list of all tuples (states, level)."""
    places = []
    for states in joined:
        places.extend([(states, level) for level in levels])
    return places


def layers_of(works, position, hours):
    """The lists of the places that can be reached, ahead of each half and at the end; refused where too many."""
    rows = [states_by_hour(machine, state, hours) for machine, state in zip(works.machines, position[0])]
    levels = [later_levels(works, position[1], many) for many in range(hours + 1)]
    refuse_too_many(rows, levels)
    joined = [all_states([row[hour] for row in rows]) for hour in range(hours + 1)]
    layers = [places_of(joined[0], levels[0])]
    for hour in range(hours):
        layers.append(places_of(joined[hour + 1], levels[hour]))
        layers.append(places_of(joined[hour + 1], levels[hour + 1]))
    return layers
