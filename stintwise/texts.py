"""Plans and works as lines, and back."""

from stintwise.errors import NoText, Wrong
from stintwise.machines import Machine
from stintwise.stores import Store
from stintwise.works import Works

FIGURES = "0123456789"
MOST_FIGURES = 20
RESTS = "-"
LEVEL_AHEAD = "@"
NOTHING = "none"


def number_of(word):
    """The number that the word writes in figures; refused where it isn't written so."""
    if len(word) == 0 or len(word) > MOST_FIGURES:
        raise NoText()
    if not all([sign in FIGURES for sign in word]):
        raise NoText()
    if len(word) > 1 and word[0] == "0":
        raise NoText()
    return int(word)


def number_behind(word, ahead):
    """The number in the word behind what stands ahead of it; refused where that doesn't stand there."""
    if not word.startswith(ahead):
        raise NoText()
    return number_of(word[len(ahead):])


def show_hour(planned):
    """An hour of a plan in words."""
    words = [str(output) if on == 1 else RESTS for on, output in zip(planned[0], planned[1])]
    return " ".join(words + [LEVEL_AHEAD + str(planned[2])])


def show_plan(plan):
    """The line of a plan."""
    if len(plan) == 0:
        return NOTHING
    return "; ".join([show_hour(planned) for planned in plan])


def read_hour(part):
    """The hour's tuple of which these are the words."""
    words = part.split(" ")
    level = number_behind(words[-1], LEVEL_AHEAD)
    ons = [0 if word == RESTS else 1 for word in words[:-1]]
    outputs = [0 if word == RESTS else number_of(word) for word in words[:-1]]
    return (tuple(ons), tuple(outputs), level)


def read_plan(line):
    """The plan of which this is the line."""
    if line == NOTHING:
        return []
    plan = [read_hour(part) for part in line.split("; ")]
    if any([len(planned[0]) != len(plan[0][0]) for planned in plan]):
        raise NoText()
    return plan


def show_machine(machine):
    """The values of a machine in words."""
    costs = [machine.begin, machine.run, machine.rest, machine.least]
    words = [str(number) for number in [machine.up, machine.down] + costs]
    return " ".join(words + [f"{amount}:{rate}" for amount, rate in machine.pieces])


def show_store(store):
    """The values of a store in words, or that there is none."""
    if store is None:
        return NOTHING
    values = [store.cap, store.into, store.out, store.takes, store.gives]
    return " ".join(["store"] + [str(number) for number in values])


def show_works(works):
    """The line of works."""
    parts = [show_machine(machine) for machine in works.machines]
    return "; ".join(parts + [show_store(works.store), "lack " + str(works.lack)])


def read_piece(word):
    """The piece (amount, rate) that the word writes."""
    parts = word.split(":")
    if len(parts) != 2:
        raise NoText()
    return (number_of(parts[0]), number_of(parts[1]))


def read_machine(part):
    """The Machine of which these are the words."""
    words = part.split(" ")
    if len(words) < 6:
        raise NoText()
    values = [number_of(word) for word in words[:6]]
    pieces = [read_piece(word) for word in words[6:]]
    return Machine(values[0], values[1], values[2], values[3], values[4], values[5], pieces)


def read_store(part):
    """The Store of which these are the words, or None."""
    if part == NOTHING:
        return None
    words = part.split(" ")
    if len(words) != 6 or words[0] != "store":
        raise NoText()
    values = [number_of(word) for word in words[1:]]
    return Store(values[0], values[1], values[2], values[3], values[4])


def read_works(line):
    """The Works of which this is the line."""
    parts = line.split("; ")
    if len(parts) < 2:
        raise NoText()
    try:
        machines = [read_machine(part) for part in parts[:-2]]
        return Works(machines, read_store(parts[-2]), number_behind(parts[-1], "lack "))
    except Wrong:
        raise NoText() from None
