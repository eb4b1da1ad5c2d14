"""Whether a table shows that no plan of works costs less than a number."""

from stintwise.more4 import least_of, shows_least
from stintwise.more8 import Halves


def places_amid(halves, hour, ahead):
    """The list of the places amid an hour to which the positions ahead of it lead, each one once."""
    places = {}
    for position, number in ahead:
        for ons, place, cost in halves.ways_at(2 * hour, position):
            places[place] = True
    return list(places)


def entries_amid(halves, hour, ahead, behind):
    """The greatest numbers that the places amid an hour may have, by the list of entries behind it."""
    numbers = dict(behind)
    entries = []
    for place in places_amid(halves, hour, ahead):
        ways = halves.ways_at(2 * hour + 1, place)
        # A place from which some way leads to no entry has no number: so nothing that leads to it is let by.
        if all([later in numbers for level, later, cost in ways]):
            entries.append((place, least_of(ways, numbers)))
    return entries


def by_halves(halves, table):
    """The table with a list more amid each hour."""
    lists = table[:1]
    for hour in range(len(table) - 1):
        lists.append(entries_amid(halves, hour, table[hour], table[hour + 1]))
        lists.append(table[hour + 1])
    return lists


def shows_plan(works, position, wants, table, number):
    """Whether by this table no plan from the position costs less than the number."""
    if len(table) != len(wants) + 1:
        return False
    halves = Halves(works, wants)
    lists = by_halves(halves, table)
    return shows_least(position, 2 * len(wants), lists, number, lambda half, place: halves.ways_at(half, place))
