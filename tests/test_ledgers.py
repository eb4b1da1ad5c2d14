import copy
import random
import unittest

from helper import BIG, chance_plan, slow_ledger, small_works
from stintwise.ledgers import compared, ledger_of, plan_cost
from stintwise.machines import Machine
from stintwise.plans import left_over
from stintwise.runs import run_cost
from stintwise.stores import Store
from stintwise.works import Works

FIRST = Machine(2, 3, 500, 10, 20, 4, [(3, 2), (2, 7)])
SECOND = Machine(1, 1, 300, 40, 1, 2, [(2, 1)])
WORKS = Works([FIRST, SECOND, FIRST], Store(3, 1, 2, 4, 3), 9)
START = (((0, 0), (1, 0), (1, 1)), 1)
PLAN = [((0, 1, 1), (0, 2, 4), 2), ((1, 0, 1), (9, 0, 9), 3), ((1, 1, 0), (4, 4, 0), 1), ((1, 1, 0), (5, 3, 0), 1)]
WANTS = [5, 6, 7, 9]


class Ledgers(unittest.TestCase):

    def test_by_hand(self):
        # Lacking are 3, 0, 0 and 1.
        self.assertEqual(ledger_of(WORKS, START, WANTS, PLAN), [
            (0, 50, 20, 0, 27),
            (500, 20, 1, 40, 0),
            (300, 50, 20, 2, 0),
            (0, 50, 20, 3, 9),
        ])
        self.assertEqual(plan_cost(WORKS, START, WANTS, PLAN), 97 + 561 + 372 + 82)

    def test_each_of_the_five_alone(self):
        for place, machine, states, ons, outputs, cost in [
                (0, Machine(1, 1, 7, 0, 0, 0, [(5, 0)]), (0, 0), 1, 5, 7),
                (0, Machine(1, 1, 7, 0, 0, 0, [(5, 0)]), (1, 0), 1, 5, 0),
                (1, Machine(1, 1, 0, 7, 0, 0, [(5, 0)]), (0, 0), 1, 5, 7),
                (1, Machine(1, 1, 0, 7, 0, 0, [(5, 0)]), (1, 0), 0, 0, 0),
                (2, Machine(1, 1, 0, 0, 7, 0, [(5, 0)]), (1, 0), 0, 0, 7),
                (2, Machine(1, 1, 0, 0, 7, 0, [(5, 0)]), (0, 0), 0, 0, 7),
                (2, Machine(1, 1, 0, 0, 7, 0, [(5, 0)]), (0, 0), 1, 5, 0),
                (3, Machine(1, 1, 0, 0, 0, 3, [(2, 4)]), (0, 0), 1, 5, 8),
                (3, Machine(1, 1, 0, 0, 0, 3, [(2, 4)]), (0, 0), 1, 3, 0),
                (4, Machine(1, 1, 0, 0, 0, 3, [(2, 0)]), (0, 0), 1, 3, 10),
                (4, Machine(1, 1, 0, 0, 0, 3, [(2, 0)]), (0, 0), 0, 0, 25)]:
            works = Works([machine], None, 5)
            want = 5
            costs = [0] * 5
            costs[4] = 5 * (want - outputs)
            costs[place] = cost
            plan = [((ons,), (outputs,), 0)]
            self.assertEqual(ledger_of(works, ((states,), 0), [want], plan), [tuple(costs)], (place, plan))
            self.assertEqual(plan_cost(works, ((states,), 0), [want], plan), sum(costs))

    def test_making_beyond_the_want_costs_making_alone(self):
        works = Works([Machine(1, 1, 0, 0, 0, 3, [(2, 4)])], None, BIG)
        self.assertEqual(ledger_of(works, (((0, 0),), 0), [1], [((1,), (4,), 0)]), [(0, 0, 0, 4, 0)])

    def test_the_store_takes_in_and_gives_out(self):
        works = Works([], Store(2, 1, 2, 7, 5), 10)
        plan = [((), (), 1), ((), (), 2), ((), (), 2), ((), (), 0)]
        self.assertEqual(ledger_of(works, ((), 0), [0, 1, 2, 12], plan),
                         [(0, 0, 0, 0, 70), (0, 0, 0, 0, 80), (0, 0, 0, 0, 20), (0, 0, 0, 0, 20)])

    def test_no_hours(self):
        for works, position in small_works():
            self.assertEqual(ledger_of(works, position, [], []), [])
            self.assertEqual(plan_cost(works, position, [], []), 0)
            self.assertEqual(compared(works, position, [], [], []), [])

    def test_by_chance(self):
        chance = random.Random(31)
        for works, position in small_works():
            for time in range(60):
                hours = chance.choice([1, 3, 8])
                plan = chance_plan(chance, works, position, hours)
                wants = [chance.randrange(16) for hour in range(hours)]
                ledger = ledger_of(works, position, wants, plan)
                self.assertEqual(ledger, slow_ledger(works, position, wants, plan))
                self.assertTrue(all(isinstance(costs, tuple) for costs in ledger))
                self.assertEqual(plan_cost(works, position, wants, plan), sum(sum(costs) for costs in ledger))

    def test_forty_eight_hours_of_great_numbers(self):
        machine = Machine(1, 1, BIG, BIG - 1, BIG - 2, BIG, [(BIG, BIG)] * 4)
        works = Works([machine] * 6, Store(8, 8, 8, BIG, BIG), BIG)
        plan = [((1,) * 6, (5 * BIG,) * 6, 8), ((0,) * 6, (0,) * 6, 0)] * 24
        start = (((0, 0),) * 6, 0)
        running = (6 * BIG, 6 * (BIG - 1), 0, 24 * BIG * BIG, 0)
        resting = (0, 0, 6 * (BIG - 2), 0, 0)
        self.assertEqual(ledger_of(works, start, [BIG] * 48, plan), [running, resting] * 24)
        self.assertEqual(plan_cost(works, start, [BIG] * 48, plan), 24 * (sum(running) + sum(resting)))
        idle = [((0,) * 6, (0,) * 6, 8), ((0,) * 6, (0,) * 6, 8)]
        self.assertEqual(ledger_of(works, start, [BIG] * 2, idle),
                         [(0, 0, 6 * (BIG - 2), 0, 9 * BIG * BIG), (0, 0, 6 * (BIG - 2), 0, BIG * BIG)])

    def test_the_first_three_are_the_costs_of_the_runs(self):
        chance = random.Random(32)
        for works, position in small_works():
            plan = chance_plan(chance, works, position, 48)
            wants = [chance.randrange(16) for hour in range(48)]
            ledger = ledger_of(works, position, wants, plan)
            runs = sum(run_cost(machine, position[0][at], [planned[0][at] for planned in plan])
                       for at, machine in enumerate(works.machines))
            self.assertEqual(sum(sum(costs[:3]) for costs in ledger), runs)
            lacking = [works.lack * left[1] for left in left_over(works, position, wants, plan)]
            self.assertEqual([costs[4] for costs in ledger], lacking)


class Compared(unittest.TestCase):

    def test_no_hour_unlike(self):
        self.assertEqual(compared(WORKS, START, WANTS, PLAN, PLAN), [])
        self.assertEqual(compared(WORKS, START, WANTS, PLAN, copy.deepcopy(PLAN)), [])

    def test_unlike_hours_of_like_costs(self):
        # The one machine in the place of another just like it costs the same.
        works = Works([SECOND, SECOND], None, 9)
        one, other = [((1, 0), (3, 0), 0)], [((0, 1), (0, 3), 0)]
        self.assertEqual(compared(works, (((0, 0), (0, 0)), 0), [5], one, other), [])

    def test_one_hour_unlike(self):
        other = PLAN[:3] + [((1, 1, 0), (7, 2, 0), 1)]
        self.assertEqual(compared(WORKS, START, WANTS, PLAN, other), [(3, (0, 0, 0, 3, -9))])
        self.assertEqual(compared(WORKS, START, WANTS, other, PLAN), [(3, (0, 0, 0, -3, 9))])
        middle = PLAN[:1] + [((1, 0, 1), (9, 0, 8), 3)] + PLAN[2:]
        self.assertEqual(compared(WORKS, START, WANTS, PLAN, middle), [(1, (0, 0, 0, -7, 0))])

    def test_all_hours_unlike(self):
        other = [((0, 0, 1), (0, 0, 4), 1), ((0, 0, 1), (0, 0, 4), 1), ((0, 0, 0), (0, 0, 0), 1),
                 ((0, 0, 0), (0, 0, 0), 1)]
        self.assertEqual(compared(WORKS, START, WANTS, PLAN, other), [
            (0, (0, -40, 1, 0, 9 - 27)),
            (1, (-500, -10, 20, -40, 18)),
            (2, (-300, -50, 21, -2, 63)),
            (3, (0, -50, 21, -3, 81 - 9)),
        ])

    def test_hours_unlike_whose_sums_are_alike(self):
        # Making one more at 2 costs just what one lacking costs, at 2.
        works = Works([Machine(1, 1, 0, 6, 0, 0, [(3, 2)])], None, 2)
        one = [((1,), (3,), 0), ((1,), (2,), 0)]
        other = [((1,), (1,), 0), ((0,), (0,), 0)]
        start = (((1, 0),), 0)
        self.assertEqual(compared(works, start, [3, 2], one, other), [(0, (0, 0, 0, -4, 4)), (1, (0, -6, 0, -4, 4))])
        self.assertEqual(compared(works, start, [3, 2], one, [one[0]] + [((1,), (0,), 0)]), [(1, (0, 0, 0, -4, 4))])

    def test_by_chance(self):
        chance = random.Random(33)
        for works, position in small_works():
            for time in range(40):
                one = chance_plan(chance, works, position, 5)
                other = chance_plan(chance, works, position, 5)
                wants = [chance.randrange(16) for hour in range(5)]
                right = []
                ledgers = zip(slow_ledger(works, position, wants, one), slow_ledger(works, position, wants, other))
                for hour, (less, more) in enumerate(ledgers):
                    if less != more:
                        right.append((hour, tuple(more[at] - less[at] for at in range(5))))
                self.assertEqual(compared(works, position, wants, one, other), right)


class OwnLists(unittest.TestCase):

    def test_what_is_handed_in_stays_and_what_is_told_may_be_changed(self):
        plan, wants = copy.deepcopy(PLAN), list(WANTS)
        other = [((0, 0, 1), (0, 0, 4), 1), ((0, 0, 1), (0, 0, 4), 1)] + [((0, 0, 0), (0, 0, 0), 1)] * 2
        for ask in [lambda: ledger_of(WORKS, START, wants, plan),
                    lambda: compared(WORKS, START, wants, plan, other),
                    lambda: compared(WORKS, START, wants, plan, plan)]:
            told = ask()
            self.assertIsInstance(told, list)
            kept = list(told)
            told.append("changed")
            told[0] = "changed"
            self.assertEqual(ask(), kept)
        self.assertEqual(plan_cost(WORKS, START, wants, plan), 1112)
        self.assertEqual((plan, wants), (PLAN, WANTS))
        self.assertEqual(len(other), 4)

    def test_changed_lists_are_looked_at_anew(self):
        plan, wants = copy.deepcopy(PLAN), list(WANTS)
        self.assertEqual(plan_cost(WORKS, START, wants, plan), 1112)
        wants[0] = 2
        self.assertEqual(plan_cost(WORKS, START, wants, plan), 1112 - 27)
        plan[3] = ((1, 1, 0), (6, 3, 0), 1)
        self.assertEqual(plan_cost(WORKS, START, wants, plan), 1112 - 27 + 2 - 9)
        self.assertEqual(compared(WORKS, START, wants, PLAN, plan), [(3, (0, 0, 0, 2, -9))])


if __name__ == "__main__":
    unittest.main()
