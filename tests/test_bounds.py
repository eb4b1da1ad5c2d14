import copy
import itertools
import random
import unittest

from helper import (BIG, all_plans, chance_plan, chance_works, good_runs, plain, slow_cost, slow_path_worth,
                    slow_paths, slow_plan_cost, slow_run_worth, small_works, soon)
from stintwise.bounds import price_bound, price_gaps
from stintwise.ledgers import plan_cost
from stintwise.machines import Machine
from stintwise.margins import margin_price
from stintwise.plans import plan_fault
from stintwise.shares import share_cost, share_out
from stintwise.stores import Store
from stintwise.whole import cheapest_plan
from stintwise.works import Works

FIRST = Machine(2, 3, 5, 1, 2, 4, [(3, 2), (2, 7)])
SECOND = Machine(1, 1, 3, 2, 1, 1, [(2, 1)])
STORE = Store(3, 1, 2, 4, 3)


def slow_leasts(works, position, prices):
    """The least worths of the machines and of the store, of all runs and paths."""
    machines = [min(slow_run_worth(machine, state, prices, run) for run in good_runs(machine, state, len(prices)))
                for machine, state in zip(works.machines, position[0])]
    store = 0
    if works.store is not None:
        paths = slow_paths(works.store, position[1], len(prices))
        store = min(slow_path_worth(works.store, position[1], prices, path) for path in paths)
    return machines, store


def slow_bound(works, position, wants, prices):
    machines, store = slow_leasts(works, position, prices)
    return sum(price * want for price, want in zip(prices, wants)) + sum(machines) + store


def slow_gaps(works, position, wants, plan, prices):
    """The four parts, each hour by hour."""
    least_machines, least_store = slow_leasts(works, position, prices)
    machines = []
    for at, machine in enumerate(works.machines):
        worth, ahead = 0, position[0][at][0]
        for price, planned in zip(prices, plan):
            on, output = planned[0][at], planned[1][at]
            if on:
                worth += (0 if ahead else machine.begin) + machine.run + slow_cost(machine, output) - price * output
            else:
                worth += machine.rest
            ahead = on
        machines.append(worth - least_machines[at])
    path = [planned[2] for planned in plan]
    store = slow_path_worth(works.store, position[1], prices, path) - least_store if works.store else 0
    wastes, lacks, level = [], [], position[1]
    for price, want, (ons, outputs, later) in zip(prices, wants, plan):
        taken = slow_path_worth(works.store, level, [1], [later]) if works.store else 0
        over = sum(outputs) - taken - want
        wastes.append(price * over if over > 0 else 0)
        lacks.append((works.lack - price) * -over if over < 0 else 0)
        level = later
    return machines, store, wastes, lacks


def price_rows(lack, hours):
    """All rows of prices at 0, lack and one or two between."""
    prices = sorted({0, lack // 3, lack - lack // 3, lack})
    return [list(row) for row in itertools.product(prices, repeat=hours)]


class Bound(unittest.TestCase):

    def test_no_hours(self):
        for works, position in small_works():
            self.assertEqual(price_bound(works, position, [], []), 0)

    def test_without_machines_and_store(self):
        works = Works([], None, 9)
        self.assertEqual(price_bound(works, ((), 0), [4, 0, 7], [0, 5, 9]), 63)
        self.assertEqual(price_bound(works, ((), 0), [4, 0, 7], [9, 9, 9]), 99)
        self.assertEqual(price_bound(works, ((), 0), [4, 0, 7], [0, 0, 0]), 0)

    def test_one_machine_by_hand(self):
        # At 3 an hour of running gains 12 + 3, at 9 it gains 36 + 21 + 4; it begins once for 5 and runs for 1.
        works = Works([FIRST], None, 9)
        self.assertEqual(price_bound(works, (((0, 0),), 0), [5, 6], [3, 9]), 15 + 54 + 5 + 2 - 15 - 61)
        self.assertEqual(price_bound(works, (((1, 0),), 0), [5, 6], [3, 9]), 15 + 54 + 2 - 15 - 61)
        self.assertEqual(price_bound(works, (((0, 7),), 0), [5, 6], [3, 9]), 15 + 54 + 4)
        self.assertEqual(price_bound(works, (((0, 0),), 0), [5, 6], [0, 0]), 4)
        self.assertEqual(price_bound(works, (((1, 1),), 0), [5, 6], [0, 0]), 2)

    def test_a_store_by_hand(self):
        # From level 1 it takes in 4 at 1 and gives out 3 each at 9.
        works = Works([], STORE, 9)
        self.assertEqual(price_bound(works, ((), 1), [2, 8], [1, 9]), 2 + 72 + 4 - 54)
        self.assertEqual(price_bound(works, ((), 1), [2, 8], [0, 0]), 0)
        self.assertEqual(price_bound(works, ((), 1), [2, 8], [9, 9]), 90 - 27)

    def test_the_parts_add_up(self):
        for prices in price_rows(9, 3):
            wants = [5, 0, 8]
            bare = price_bound(Works([], None, 9), ((), 0), wants, prices)
            first = price_bound(Works([FIRST], None, 9), (((0, 0),), 0), wants, prices) - bare
            second = price_bound(Works([SECOND], None, 9), (((1, 0),), 0), wants, prices) - bare
            store = price_bound(Works([], STORE, 9), ((), 2), wants, prices) - bare
            both = Works([SECOND, FIRST], STORE, 9)
            self.assertEqual(price_bound(both, (((1, 0), (0, 0)), 2), wants, prices), bare + first + second + store)
            twice = Works([FIRST, SECOND, FIRST], STORE, 9)
            self.assertEqual(price_bound(twice, (((0, 0), (1, 0), (0, 0)), 2), wants, prices),
                             bare + 2 * first + second + store)

    def test_against_all_runs_and_paths(self):
        for works, position in small_works()[:-1]:
            for prices in price_rows(works.lack, 3):
                for wants in [[0, 0, 0], [5, 2, 9], [BIG, 0, 3]]:
                    told = price_bound(works, position, wants, prices)
                    self.assertEqual(told, slow_bound(works, position, wants, prices))

    def test_never_above_any_plan(self):
        chance = random.Random(41)
        just = 0
        for time in range(60):
            works, position = chance_works(chance)
            wants = [chance.randrange(8) for hour in range(2)]
            least = min(slow_plan_cost(works, position, wants, plan) for plan in all_plans(works, position, 2))
            bounds = [price_bound(works, position, wants, prices) for prices in price_rows(works.lack, 2)]
            self.assertLessEqual(max(bounds), least)
            just += max(bounds) == least
        self.assertGreater(just, 10)

    def test_many_hours_of_great_numbers(self):
        machine = Machine(12, 12, BIG, BIG, BIG, BIG, [(BIG, 0), (BIG, 1), (BIG, BIG - 1), (BIG, BIG)])
        works = Works([machine] * 6, Store(8, 8, 8, BIG, BIG), BIG)
        with soon(20):
            told = price_bound(works, (((1, 0),) * 6, 0), [BIG] * 48, [BIG] * 48)
        gain = BIG * BIG + BIG * BIG + BIG * (BIG - 1) + BIG
        self.assertEqual(told, 48 * BIG * BIG + 6 * 48 * (BIG - gain))


class Gaps(unittest.TestCase):

    def check(self, works, position, wants, plan, prices):
        told = price_gaps(works, position, wants, plan, prices)
        self.assertIsInstance(told, tuple)
        machines, store, wastes, lacks = told
        for part, many in [(machines, len(works.machines)), (wastes, len(wants)), (lacks, len(wants))]:
            self.assertIsInstance(part, list)
            self.assertEqual(len(part), many)
        self.assertGreaterEqual(min(machines + [store] + wastes + lacks), 0)
        between = plan_cost(works, position, wants, plan) - price_bound(works, position, wants, prices)
        self.assertEqual(sum(machines) + store + sum(wastes) + sum(lacks), between)
        if works.store is None:
            self.assertEqual(store, 0)
        return told

    def test_no_hours(self):
        for works, position in small_works():
            self.assertEqual(price_gaps(works, position, [], [], []), ([0] * len(works.machines), 0, [], []))

    def test_a_machine_by_hand(self):
        works = Works([SECOND], None, 9)
        start = (((0, 0),), 0)
        # At 5 an hour of running is worth 2 - 5 - 8, but for a beginning; at 0 it is worth 2, a rest 1.
        for plan, gap in [([((1,), (3,), 0), ((0,), (0,), 0)], 0), ([((1,), (3,), 0), ((1,), (1,), 0)], 1),
                          ([((0,), (0,), 0), ((0,), (0,), 0)], 9), ([((1,), (1,), 0), ((0,), (0,), 0)], 8),
                          ([((1,), (2,), 0), ((0,), (0,), 0)], 4), ([((0,), (0,), 0), ((1,), (2,), 0)], 14)]:
            made = [sum(planned[1]) for planned in plan]
            self.assertEqual(self.check(works, start, made, plan, [5, 0]), ([gap], 0, [0, 0], [0, 0]), plan)

    def test_a_store_by_hand(self):
        works = Works([], STORE, 9)
        # Cheapest from level 1 at 1 and 9 is 2, 0: 4 less 54.
        for path, gap in [([2, 0], 0), ([1, 0], 23), ([0, 0], 47), ([1, 1], 50), ([2, 3], 90)]:
            plan = [((), (), level) for level in path]
            machines, store, wastes, lacks = self.check(works, ((), 1), [0, 0], plan, [1, 9])
            self.assertEqual((machines, store), ([], gap))

    def test_waste_and_lacking_by_hand(self):
        works = Works([SECOND, SECOND], None, 9)
        start = (((1, 0), (1, 0)), 0)
        plan = [((1, 1), (1, 3), 0), ((1, 1), (3, 3), 0), ((0, 1), (0, 2), 0)]
        told = self.check(works, start, [1, 8, 2], plan, [7, 4, 9])
        self.assertEqual(told[2:], ([21, 0, 0], [0, 10, 0]))
        self.assertEqual(self.check(works, start, [1, 8, 2], plan, [0, 9, 0])[2:], ([0, 0, 0], [0, 0, 0]))
        self.assertEqual(self.check(works, start, [1, 8, 2], plan, [9, 0, 3])[2:], ([27, 0, 0], [0, 18, 0]))
        self.assertEqual(self.check(works, start, [5, 5, 3], plan, [2, 3, 4])[2:], ([0, 3, 0], [7, 0, 5]))

    def test_the_store_takes_in_and_gives_out(self):
        works = Works([], Store(2, 1, 2, 7, 5), 10)
        plan = [((), (), 1), ((), (), 2), ((), (), 2), ((), (), 0)]
        # At these prices no path is cheaper.
        told = self.check(works, ((), 0), [0, 1, 2, 4], plan, [1, 2, 3, 4])
        self.assertEqual(told, ([], 0, [0, 0, 0, 24], [63, 64, 14, 0]))

    def test_hour_by_hour_by_chance(self):
        chance = random.Random(42)
        seen = [0, 0, 0, 0]
        for works, position in small_works()[:-1] + [chance_works(chance) for time in range(60)]:
            for time in range(12):
                hours = chance.randrange(1, 5)
                plan = chance_plan(chance, works, position, hours)
                wants = [chance.randrange(16) for hour in range(hours)]
                prices = [chance.choice([0, works.lack, chance.randrange(works.lack + 1)]) for hour in range(hours)]
                told = self.check(works, position, wants, plan, prices)
                self.assertEqual(told, slow_gaps(works, position, wants, plan, prices))
                for part, gap in enumerate([sum(told[0]), told[1], sum(told[2]), sum(told[3])]):
                    seen[part] += gap > 0
        self.assertGreater(min(seen), 40)

    def test_of_all_plans(self):
        chance = random.Random(43)
        for time in range(15):
            works, position = chance_works(chance)
            wants = [chance.randrange(6) for hour in range(2)]
            prices = [chance.randrange(works.lack + 1) for hour in range(2)]
            for plan in itertools.islice(all_plans(works, position, 2), 0, None, 7):
                self.check(works, position, wants, plan, prices)

    def test_of_the_cheapest_plan(self):
        chance = random.Random(44)
        for works, position in small_works()[:-1] + [chance_works(chance) for time in range(40)]:
            wants = [chance.randrange(12) for hour in range(4)]
            cost, plan = cheapest_plan(works, position, wants)
            for prices in price_rows(works.lack, 4)[::5]:
                machines, store, wastes, lacks = self.check(works, position, wants, plan, prices)
                bound = price_bound(works, position, wants, prices)
                self.assertEqual(bound + sum(machines) + store + sum(wastes) + sum(lacks), cost)

    def test_the_same_machine_twice(self):
        works = Works([FIRST, FIRST], None, 9)
        plan = [((1, 0), (4, 0), 0), ((1, 0), (9, 0), 0), ((1, 1), (5, 6), 0)]
        told = self.check(works, (((0, 0), (0, 0)), 0), [5, 5, 5], plan, [3, 9, 2])
        self.assertEqual(told, slow_gaps(works, (((0, 0), (0, 0)), 0), [5, 5, 5], plan, [3, 9, 2]))
        self.assertNotEqual(told[0][0], told[0][1])
        turned = [((b, a), (d, c), level) for (a, b), (c, d), level in plan]
        other = self.check(works, (((0, 0), (0, 0)), 0), [5, 5, 5], turned, [3, 9, 2])
        self.assertEqual(other[0], told[0][::-1])

    def test_many_hours(self):
        chance = random.Random(45)
        for works, position in small_works():
            plan = chance_plan(chance, works, position, 48)
            wants = [chance.randrange(20) for hour in range(48)]
            prices = [chance.randrange(works.lack + 1) for hour in range(48)]
            with soon(20):
                self.check(works, position, wants, plan, prices)


class NoOtherCosts(unittest.TestCase):
    """Machines that may change each hour and cost only what they make: there the margins' prices show the cost."""

    def test_the_bound_is_the_cost(self):
        chance = random.Random(46)
        for time in range(60):
            machines = [plain(pieces=[(chance.randrange(1, 4), rate) for rate in sorted(chance.choices(range(9), k=k))])
                        for k in chance.choices(range(5), k=chance.randrange(4))]
            lack = chance.randrange(12)
            works = Works(machines, None, lack)
            position = (tuple(chance.choice([(0, 0), (1, 0)]) for machine in machines), 0)
            wants = [chance.randrange(25) for hour in range(5)]
            prices = [margin_price(machines, want, lack) for want in wants]
            bound = price_bound(works, position, wants, prices)
            self.assertEqual(bound, sum(share_cost(machines, want, lack) for want in wants))
            plan = [((1,) * len(machines), tuple(share_out(machines, want, lack)[0]), 0) for want in wants]
            self.assertIsNone(plan_fault(works, position, wants, plan))
            self.assertEqual(plan_cost(works, position, wants, plan), bound)
            machines_parts, store, wastes, lacks = price_gaps(works, position, wants, plan, prices)
            self.assertEqual(set(machines_parts + [store] + wastes + lacks), {0})
            self.assertEqual(cheapest_plan(works, position, wants)[0], bound)


class OwnLists(unittest.TestCase):

    def test_what_is_handed_in_stays_and_what_is_told_may_be_changed(self):
        works = Works([FIRST, SECOND], STORE, 9)
        start = (((0, 0), (1, 0)), 1)
        wants, prices = [5, 6], [4, 7]
        plan = [((1, 1), (9, 1), 2), ((1, 0), (4, 0), 1)]
        handed = copy.deepcopy((wants, prices, plan))
        bound = price_bound(works, start, wants, prices)
        told = price_gaps(works, start, wants, plan, prices)
        self.assertEqual((wants, prices, plan), handed)
        kept = copy.deepcopy(told)
        for part in [told[0], told[2], told[3]]:
            part.append("changed")
            part[0] = "changed"
        self.assertEqual(price_gaps(works, start, wants, plan, prices), kept)
        self.assertEqual(price_bound(works, start, wants, prices), bound)
        prices[0] = 0
        wants[1] = 0
        self.assertEqual(price_bound(works, start, wants, prices), slow_bound(works, start, [5, 0], [0, 7]))
        self.assertEqual(price_gaps(works, start, wants, plan, prices), slow_gaps(works, start, [5, 0], plan, [0, 7]))


if __name__ == "__main__":
    unittest.main()
