"""What several tests need: things to hand in, and reckonings by the document's words alone."""

import contextlib
import functools
import itertools
import signal

from stintwise.machines import Machine
from stintwise.stores import Store
from stintwise.works import Works

BIG = 10 ** 12

NO_WHOLES = [True, False, None, "", "1", 1.0, 0.5, (), (1,), (1, 2), [], [1], {}, {1: 1}, set(), b"1", object()]


def plain(up=1, down=1, begin=0, run=0, rest=0, least=0, pieces=()):
    """A Machine of which a test names only what it is about."""
    return Machine(up, down, begin, run, rest, least, list(pieces))


def spans():
    """Machines of short and long stints, short and long rests."""
    return [plain(up, down) for up, down in [(1, 1), (1, 3), (2, 2), (3, 1), (4, 2), (2, 5), (12, 12)]]


def states_of(machine, most=59):
    """All states of the machine, with at most so many hours of rest due."""
    return [(0, due) for due in range(most + 1)] + [(1, due) for due in range(machine.up)]


def rows(hours):
    """All rows of ones and noughts over so many hours, as Python orders lists."""
    return [list(row) for row in itertools.product((0, 1), repeat=hours)]


def keeps_stints(machine, state, run):
    """Whether a run has no fault, by the lengths of its stints alone."""
    on, due = state
    lengths = [(way, len(list(hours))) for way, hours in itertools.groupby(run)]
    gone_on = 0
    if lengths and lengths[0][0] == on:
        gone_on = lengths.pop(0)[1]
    if gone_on < min(due, len(run)):
        return False
    return all(many >= (machine.up if way else machine.down) for way, many in lengths[:-1])


def first_fault(machine, state, run):
    """The last hour of the shortest beginning of the run that doesn't keep the stints, or None."""
    for hour in range(len(run)):
        if not keeps_stints(machine, state, run[:hour + 1]):
            return hour
    return None


@functools.lru_cache(maxsize=None)
def count_by_change(up, down, on, due, hours):
    """How many runs there are, told apart by the hour of the first change."""
    many = 1
    for changed in range(due, hours):
        next_due = (down if on else up) - 1
        many += count_by_change(up, down, 1 - on, next_due, hours - changed - 1)
    return many


def slow_cost(machine, output):
    """What an output costs, reckoned one by one."""
    rates = [rate for amount, rate in machine.pieces for one in range(amount)]
    if output < machine.least or output > machine.least + len(rates):
        return None
    return sum(rates[:output - machine.least])


def slow_outputs(machine):
    """All outputs that a small machine can make."""
    return range(machine.least, machine.least + sum(amount for amount, rate in machine.pieces) + 1)


def slow_gain(machine, price):
    """The gain of a small machine, of all outputs that it can make."""
    return max(price * output - slow_cost(machine, output) for output in slow_outputs(machine))


def good_runs(machine, state, hours):
    """All runs without fault, as Python orders lists."""
    return [run for run in rows(hours) if keeps_stints(machine, state, run)]


def slow_run_worth(machine, state, prices, run):
    """What a run is worth, hour by hour."""
    worth = 0
    for ahead, on, price in zip([state[0]] + run, run, prices):
        if on and not ahead:
            worth += machine.begin
        worth += machine.run - slow_gain(machine, price) if on else machine.rest
    return worth


def least_by_change(machine, state, prices):
    """The least worth and its first run, told apart by the hour of the next change; of many hours too."""
    gains = [slow_gain(machine, price) for price in prices]

    def stint(on, first, end):
        return sum(machine.run - gains[hour] if on else machine.rest for hour in range(first, end))

    @functools.lru_cache(maxsize=None)
    def least(on, due, first):
        found = [(stint(on, first, len(prices)), (on,) * (len(prices) - first))]
        for changed in range(first + due, len(prices)):
            # The hour of the change itself is the first one of those that are then due.
            behind = least(1 - on, machine.down if on else machine.up, changed)
            worth = stint(on, first, changed) + (0 if on else machine.begin) + behind[0]
            found.append((worth, (on,) * (changed - first) + behind[1]))
        return min(found)

    worth, run = least(state[0], state[1], 0)
    return worth, list(run)


def slow_paths(store, level, hours):
    """All paths without fault of a small store, as Python orders lists."""
    found = []
    for path in itertools.product(range(store.cap + 1), repeat=hours):
        steps = [later - ahead for ahead, later in zip((level,) + path, path)]
        if all(-store.out <= step <= store.into for step in steps):
            found.append(list(path))
    return found


def slow_path_worth(store, level, prices, path):
    """What a path is worth, level by level."""
    worth = 0
    for ahead, later, price in zip([level] + path, path, prices):
        worth += sum(price * store.takes for rise in range(ahead, later))
        worth -= sum(price * store.gives for fall in range(later, ahead))
    return worth


def small_works():
    """Tuples (works, position): none, one and several machines, with a store and without, of the same machine twice."""
    first = Machine(2, 3, 5, 1, 2, 4, [(3, 2), (2, 7)])
    second = Machine(1, 1, 3, 2, 0, 0, [(2, 1), (1, 3)])
    third = Machine(3, 2, 0, 7, 1, 1, [])
    store = Store(3, 1, 2, 4, 3)
    return [
        (Works([], None, 9), ((), 0)),
        (Works([], store, 9), ((), 2)),
        (Works([first], None, 9), (((0, 0),), 0)),
        (Works([first], store, 6), (((1, 1),), 3)),
        (Works([second, first], store, 4), (((1, 0), (0, 2)), 0)),
        (Works([third, third], Store(2, 2, 1, 0, 5), 0), (((0, 1), (1, 2)), 1)),
        (Works([second, third, first], None, 8), (((0, 0), (1, 0), (0, 0)), 0)),
        (Works([second] * 6, Store(8, 8, 8, 1, 1), 30), (((0, 0),) * 6, 4)),
    ]


def column(plan, at):
    """The run of the machine of that place in a plan."""
    return [ons[at] for ons, outputs, level in plan]


def slow_level_fits(works, level, later):
    """Whether an hour may bring the store from the one level to the other."""
    if works.store is None:
        return later == 0
    return 0 <= later <= works.store.cap and -works.store.out <= later - level <= works.store.into


def slow_plan_fault(works, position, wants, plan):
    """The first fault of a plan, by the lengths of stints and by the bounds of outputs and levels."""
    if len(plan) != len(wants):
        return ("hours",)
    level = position[1]
    for hour, (ons, outputs, later) in enumerate(plan):
        for at, machine in enumerate(works.machines):
            if not keeps_stints(machine, position[0][at], column(plan, at)[:hour + 1]):
                return ("run", hour, at)
        for at, machine in enumerate(works.machines):
            if outputs[at] not in (slow_outputs(machine) if ons[at] else [0]):
                return ("output", hour, at)
        if not slow_level_fits(works, level, later):
            return ("level", hour)
        level = later
    return None


def slow_ledger(works, position, wants, plan):
    """The five costs of each hour, one by one."""
    ledger = []
    ahead, level = [state[0] for state in position[0]], position[1]
    for want, (ons, outputs, later) in zip(wants, plan):
        costs = [0, 0, 0, 0, 0]
        there = sum(outputs)
        for at, machine in enumerate(works.machines):
            if ons[at]:
                costs[0] += 0 if ahead[at] else machine.begin
                costs[1] += machine.run
                costs[3] += slow_cost(machine, outputs[at])
            else:
                costs[2] += machine.rest
        if works.store is not None:
            there -= slow_path_worth(works.store, level, [1], [later])
        costs[4] = works.lack * (want - there) if want > there else 0
        ledger.append(tuple(costs))
        ahead, level = ons, later
    return ledger


def chance_plan(chance, works, position, hours):
    """A plan without fault, by chance."""
    plan = []
    level = position[1]
    for hour in range(hours):
        ons = []
        for at, machine in enumerate(works.machines):
            run = column(plan, at)
            ways = [on for on in (0, 1) if keeps_stints(machine, position[0][at], run + [on])]
            ons.append(chance.choice(ways))
        outputs = [chance.choice(slow_outputs(machine)) if on else 0 for machine, on in zip(works.machines, ons)]
        level = chance.choice([later for later in range(9) if slow_level_fits(works, level, later)])
        plan.append((tuple(ons), tuple(outputs), level))
    return plan


def slow_later(machine, state, on):
    """The state behind an hour in which the machine runs or rests, or None where it may not, by the words alone."""
    if state[0] == on:
        return (on, state[1] - 1 if state[1] > 0 else 0)
    if state[1] > 0:
        return None
    return (on, (machine.up if on else machine.down) - 1)


def slow_felled(works, position, at, hours):
    """The position when the machine of that place falls, by the words alone."""
    states = list(position[0])
    on, due = states[at]
    states[at] = (0, max(hours, works.machines[at].down if on else due))
    return tuple(states), position[1]


def slow_positions(works, position, hours):
    """The sets of the positions that can be reached behind 0, 1 .. hours, hour by hour."""
    layers = [{position}]
    for hour in range(hours):
        found = set()
        for states, level in layers[-1]:
            ways = [[slow_later(machine, state, on) for on in (0, 1)] for machine, state in zip(works.machines, states)]
            levels = [later for later in range(9) if slow_level_fits(works, level, later)]
            for laters in itertools.product(*[[later for later in way if later is not None] for way in ways]):
                found.update((laters, later) for later in levels)
        layers.append(found)
    return layers


def all_rows(works, position, hours):
    """All rows of tuples (ons, level) that plans without fault have, rising."""
    found = [[]]
    for hour in range(hours):
        longer = []
        for row in found:
            level = row[-1][1] if row else position[1]
            for ons in itertools.product((0, 1), repeat=len(works.machines)):
                runs = [[way[0][at] for way in row] + [on] for at, on in enumerate(ons)]
                if all(keeps_stints(*each) for each in zip(works.machines, position[0], runs)):
                    longer.extend(row + [(ons, later)] for later in range(9) if slow_level_fits(works, level, later))
        found = longer
    return found


def outputs_for(works, ons):
    """All tuples of outputs that the machines can have where they run and rest so."""
    choices = [slow_outputs(machine) if on else [0] for machine, on in zip(works.machines, ons)]
    return list(itertools.product(*choices))


def all_plans(works, position, hours):
    """All plans without fault of small works over few hours."""
    for row in all_rows(works, position, hours):
        for made in itertools.product(*[outputs_for(works, ons) for ons, level in row]):
            yield [(ons, outputs, level) for (ons, level), outputs in zip(row, made)]


def slow_plan_cost(works, position, wants, plan):
    """What a plan costs, one by one."""
    return sum(sum(costs) for costs in slow_ledger(works, position, wants, plan))


@functools.lru_cache(maxsize=None)
def slow_hour_cost(works, ahead, level, want, ons, later):
    """The least that an hour costs, of all outputs, where the machines ran and rested so in the hour ahead."""
    position = (tuple((on, 0) for on in ahead), level)
    return min(slow_plan_cost(works, position, [want], [(ons, outputs, later)]) for outputs in outputs_for(works, ons))


def slow_row_cost(works, position, wants, row):
    """The least that a row of ons and levels costs, of all outputs."""
    ahead, level = tuple(state[0] for state in position[0]), position[1]
    cost = 0
    for want, (ons, later) in zip(wants, row):
        cost += slow_hour_cost(works, ahead, level, want, ons, later)
        ahead, level = ons, later
    return cost


def slow_cheapest(works, position, wants):
    """The least cost of all plans over few hours, and the first row of ons and levels that comes to it."""
    found = [(slow_row_cost(works, position, wants, row), row) for row in all_rows(works, position, len(wants))]
    return min(found)


def forward_least(works, position, wants):
    """The least cost of all plans, gone from the first hour to the last; of many hours too."""
    costs = {position: 0}
    for want in wants:
        later_costs = {}
        for (states, level), cost in costs.items():
            ahead = tuple(state[0] for state in states)
            for ons in itertools.product((0, 1), repeat=len(states)):
                laters = tuple(slow_later(*each) for each in zip(works.machines, states, ons))
                if None in laters:
                    continue
                for later in range(9):
                    if slow_level_fits(works, level, later):
                        whole = cost + slow_hour_cost(works, ahead, level, want, ons, later)
                        place = (laters, later)
                        later_costs[place] = min(whole, later_costs.get(place, whole))
        costs = later_costs
    return min(costs.values())


def chance_machine(chance):
    """A small machine by chance."""
    rates = sorted(chance.randrange(7) for piece in range(chance.randrange(3)))
    pieces = [(chance.randrange(1, 3), rate) for rate in rates]
    up, down = chance.choice([1, 1, 2, 3]), chance.choice([1, 1, 2, 3])
    return Machine(up, down, chance.randrange(6), chance.randrange(4), chance.randrange(3), chance.randrange(3), pieces)


def chance_works(chance, most=2):
    """Small works by chance, of none to so many machines, with a store or without, and a position of them."""
    machines = [chance_machine(chance) for machine in range(chance.randrange(most + 1))]
    if machines and chance.randrange(4) == 0:
        machines.append(machines[0])
        machines = machines[-most:]
    store = None
    if chance.randrange(2):
        store = Store(chance.randrange(3), chance.randrange(3), chance.randrange(3), chance.randrange(4),
                      chance.randrange(4))
    states = tuple(chance.choice(states_of(machine, 4)) for machine in machines)
    level = chance.randrange(store.cap + 1) if store else 0
    return Works(machines, store, chance.randrange(10)), (states, level)


def slow_shows(place, hours, table, number, ways):
    """Whether a table shows the number for the place, by the words alone; ways(hour, place): tuples (later, worth)."""
    if len(table) != hours + 1:
        return False
    for entries in table:
        for at, entry in enumerate(entries):
            if any(entry[0] == other[0] for other in entries[:at]):
                return False
    if (place, number) not in table[0] or any(last > 0 for there, last in table[-1]):
        return False
    for hour in range(hours):
        for there, told in table[hour]:
            for later, worth in ways(hour, there):
                if not any(later == other and told <= worth + rest for other, rest in table[hour + 1]):
                    return False
    return True


def change_table(chance, table, number, places):
    """Change something in the table; tells the number to ask with."""
    entries = chance.choice(table)
    way = chance.randrange(5)
    if way == 0 and entries:
        entries.pop(chance.randrange(len(entries)))
    elif way == 1:
        entries.append((chance.choice(places), chance.randrange(-40, 1)))
    elif way == 2:
        number -= 1
        for one in table:
            one[:] = [(place, worth - 1) for place, worth in one]
    elif entries:
        at = chance.randrange(len(entries))
        more = chance.choice([-9, -2, -1, 1])
        if entries is table[0]:
            number += more
        entries[at] = (entries[at][0], entries[at][1] + more)
    return number


@contextlib.contextmanager
def soon(seconds=60):
    """Fail what is done within where it takes longer than so many seconds."""
    def too_late(number, frame):
        raise AssertionError("no answer within %d seconds" % seconds)
    former = signal.signal(signal.SIGALRM, too_late)
    signal.alarm(seconds)
    try:
        yield
    finally:
        signal.alarm(0)
        signal.signal(signal.SIGALRM, former)
