"""Rows of hours at least worth, and tables that show them: alike for whatever goes from place to place.

A place is where an hour begins: a state of a machine, a level of a store. ways_at(hour, place) tells what the hour
may be from there: a list of tuples (choice, place behind it, worth), rising by choice.
"""


def least_of(ways, behind):
    """The least worth of one hour and of all behind it."""
    return min([worth + behind[later] for choice, later, worth in ways])


def worths_ahead(places, hour, behind, ways_at):
    """A dict of the places ahead of an hour, each with the least worth from there to the end."""
    worths = {}
    for place in places:
        worths[place] = least_of(ways_at(hour, place), behind)
    return worths


def worths_by_hour(layers, ways_at):
    """For the places of each hour and of the end a dict of them, each with the least worth from there to the end."""
    behind = {}
    for place in layers[-1]:
        behind[place] = 0
    worths = [behind]
    for hour in range(len(layers) - 2, -1, -1):
        behind = worths_ahead(layers[hour], hour, behind, ways_at)
        worths.append(behind)
    return list(reversed(worths))


def first_best(ways, behind):
    """The first of the ways that come to the least worth."""
    least = least_of(ways, behind)
    return [way for way in ways if way[2] + behind[way[1]] == least][0]


def first_row(place, worths, ways_at):
    """The choices, hour by hour, of the first row of least worth, by the dicts of worths_by_hour."""
    row = []
    for hour in range(len(worths) - 1):
        way = first_best(ways_at(hour, place), worths[hour + 1])
        row.append(way[0])
        place = way[1]
    return row


def table_of(worths):
    """The dicts of worths_by_hour as lists of tuples (place, worth), rising."""
    return [sorted(named.items()) for named in worths]


def is_at_most(number, ways, behind):
    """Whether each way leads to a place behind that has a number, and is with it worth the number or more."""
    return all([later in behind and number <= worth + behind[later] for choice, later, worth in ways])


def keeps_hour(hour, ahead, behind, ways_at):
    """Whether no number ahead of the hour is more than some way through it comes to."""
    return all([is_at_most(number, ways_at(hour, place), behind) for place, number in ahead.items()])


def shows_least(place, hours, table, number, ways_at):
    """Whether the table shows that no row of so many hours from the place is worth less than the number."""
    if len(table) != hours + 1:
        return False
    numbers = [dict(entries) for entries in table]
    # A place that stands twice in a list is one alone in the dict.
    if [len(named) for named in numbers] != [len(entries) for entries in table]:
        return False
    if numbers[0].get(place) != number:
        return False
    if any([last > 0 for last in numbers[hours].values()]):
        return False
    return all([keeps_hour(hour, numbers[hour], numbers[hour + 1], ways_at) for hour in range(hours)])
