import copy
import random
import unittest

from helper import (all_plans, chance_plan, chance_works, slow_cheapest, slow_felled, slow_plan_cost, small_works,
                    soon)
from stintwise.errors import TooMany
from stintwise.ledgers import plan_cost
from stintwise.machines import Machine
from stintwise.mends import mended
from stintwise.plans import plan_fault, position_behind
from stintwise.stores import Store
from stintwise.whole import cheapest_plan, least_cost
from stintwise.works import Works

FIRST = Machine(2, 3, 5, 1, 2, 1, [(3, 2)])
SECOND = Machine(1, 2, 3, 2, 0, 0, [(2, 1), (1, 3)])


def outputs_left_out(plan):
    return [(ons, level) for ons, outputs, level in plan]


class Mended(unittest.TestCase):

    def check(self, works, position, wants, plan, hour, at, hours):
        """What holds of each mended plan; tells the position with the felled state."""
        handed = copy.deepcopy((wants, plan))
        told = mended(works, position, wants, plan, hour, at, hours)
        self.assertEqual((wants, plan), handed)
        self.assertIsInstance(told, tuple)
        cost, mends = told
        self.assertIsInstance(mends, list)
        self.assertIsNot(mends, plan)
        self.assertEqual(len(mends), len(wants))
        self.assertEqual(mends[:hour], plan[:hour])
        felled = slow_felled(works, position_behind(works, position, plan[:hour]), at, hours)
        self.assertIsNone(plan_fault(works, felled, wants[hour:], mends[hour:]))
        self.assertTrue(all(planned[0][at] == 0 for planned in mends[hour:hour + hours]))
        self.assertEqual(cost, slow_plan_cost(works, position, wants[:hour], plan[:hour])
                         + slow_plan_cost(works, felled, wants[hour:], mends[hour:]))
        self.assertEqual((cost - plan_cost(works, position, wants[:hour], plan[:hour]), mends[hour:]),
                         cheapest_plan(works, felled, wants[hour:]))
        return felled

    def test_by_hand(self):
        works = Works([FIRST], None, 9)
        start = (((0, 0),), 0)
        plan = [((1,), (4,), 0), ((1,), (2,), 0), ((1,), (3,), 0), ((0,), (0,), 0)]
        wants = [4, 2, 3, 0]
        idle = ((0,), (0,), 0)
        # It cost 5 + 1 + 6, 1 + 2, 1 + 4, 2; a rest costs 2 and what lacks 9 each.
        self.assertEqual(plan_cost(works, start, wants, plan), 12 + 3 + 5 + 2)
        # Ahead of the first hour it rests anyhow: for as long as it falls, and then it begins where that pays.
        self.assertEqual(mended(works, start, wants, plan, 0, 0, 1),
                         (2 + 36 + 5 + 1 + 2 + 1 + 4 + 1, [idle, ((1,), (2,), 0), ((1,), (3,), 0), ((1,), (1,), 0)]))
        self.assertEqual(mended(works, start, wants, plan, 0, 0, 2),
                         (2 + 36 + 2 + 18 + 5 + 1 + 4 + 1, [idle, idle, ((1,), (3,), 0), ((1,), (1,), 0)]))
        self.assertEqual(mended(works, start, wants, plan, 0, 0, 48), (8 + 9 * 9, [idle] * 4))
        # Once it runs a fall takes it down for 3 hours at least.
        self.assertEqual(mended(works, start, wants, plan, 1, 0, 1), (12 + 6 + 45, plan[:1] + [idle] * 3))
        self.assertEqual(mended(works, start, wants, plan, 2, 0, 1), (15 + 4 + 27, plan[:2] + [idle] * 2))
        self.assertEqual(mended(works, start, wants, plan, 3, 0, 7), (22, plan))
        self.assertEqual(mended(works, start, wants, plan, 4, 0, 48), (22, plan))

    def test_falls_shorter_and_longer_than_down_and_than_what_is_due(self):
        works = Works([Machine(3, 4, 0, 0, 0, 1, [])], None, 5)
        wants = [1] * 12
        for state, rests in [((1, 0), {1: 4, 3: 4, 4: 4, 5: 5, 9: 9, 48: 12}),
                             ((1, 2), {1: 4, 4: 4, 5: 5}),
                             ((0, 0), {1: 1, 2: 2, 7: 7, 12: 12}),
                             ((0, 6), {1: 6, 5: 6, 6: 6, 7: 7, 11: 11}),
                             ((0, 59), {1: 12, 48: 12})]:
            start = ((state,), 0)
            plan = cheapest_plan(works, start, wants)[1]
            for hours, many in rests.items():
                self.check(works, start, wants, plan, 0, 0, hours)
                cost, mends = mended(works, start, wants, plan, 0, 0, hours)
                self.assertEqual([planned[0][0] for planned in mends], [0] * many + [1] * (12 - many))
                self.assertEqual(cost, 5 * many)

    def test_ahead_of_each_hour(self):
        chance = random.Random(81)
        seen = {0: 0, 1: 0}
        for works, position in small_works()[2:-1] + [chance_works(chance) for time in range(60)]:
            if not works.machines:
                continue
            wants = [chance.randrange(9) for hour in range(4)]
            for plan in [cheapest_plan(works, position, wants)[1], chance_plan(chance, works, position, 4)]:
                for hour in range(5):
                    at = chance.randrange(len(works.machines))
                    ran = position_behind(works, position, plan[:hour])[0][at][0]
                    seen[ran] += 1
                    for hours in [1, 2, 3, 5, 48]:
                        self.check(works, position, wants, plan, hour, at, hours)
        self.assertGreater(min(seen.values()), 50)

    def test_nothing_that_keeps_the_hours_ahead_costs_less(self):
        chance = random.Random(82)
        for time in range(60):
            works, position = chance_works(chance)
            if not works.machines:
                continue
            wants = [chance.randrange(8) for hour in range(3)]
            plan = chance_plan(chance, works, position, 3)
            at, hours = chance.randrange(len(works.machines)), chance.choice([1, 2, 4])
            for hour in range(1, 4):
                felled = self.check(works, position, wants, plan, hour, at, hours)
                ahead = slow_plan_cost(works, position, wants[:hour], plan[:hour])
                rests = all_plans(works, felled, 3 - hour)
                costs = [slow_plan_cost(works, felled, wants[hour:], rest) for rest in rests]
                cost, mends = mended(works, position, wants, plan, hour, at, hours)
                self.assertEqual(cost, ahead + min(costs))
            felled = slow_felled(works, position, at, hours)
            cost, mends = mended(works, position, wants, plan, 0, at, hours)
            self.assertEqual((cost, outputs_left_out(mends)), slow_cheapest(works, felled, wants))

    def test_no_hours_at_all_and_none_left(self):
        for works, position in small_works()[2:]:
            self.assertEqual(mended(works, position, [], [], 0, 0, 3), (0, []))
            plan = chance_plan(random.Random(83), works, position, 5)
            wants = [3] * 5
            for at in range(len(works.machines)):
                self.assertEqual(mended(works, position, wants, plan, 5, at, 48),
                                 (plan_cost(works, position, wants, plan), plan))

    def test_the_same_machine_twice(self):
        works = Works([SECOND, SECOND], None, 9)
        start = (((1, 0), (1, 0)), 0)
        wants = [6, 6, 6]
        plan = cheapest_plan(works, start, wants)[1]
        self.assertEqual([planned[0] for planned in plan], [(1, 1)] * 3)
        for at, ons in [(0, (0, 1)), (1, (1, 0))]:
            cost, mends = mended(works, start, wants, plan, 1, at, 1)
            self.assertEqual([planned[0] for planned in mends], [(1, 1), ons, ons])
            self.check(works, start, wants, plan, 1, at, 1)
        self.assertIs(works.machines[0], works.machines[1])

    def test_the_felled_machine_keeps_its_place(self):
        works = Works([FIRST, SECOND, FIRST], Store(1, 1, 1, 2, 2), 9)
        start = (((1, 0), (1, 0), (1, 0)), 1)
        wants = [9, 9, 9, 9]
        plan = cheapest_plan(works, start, wants)[1]
        for at in range(3):
            for hour in range(4):
                self.check(works, start, wants, plan, hour, at, 2)

    def test_too_many_by_the_hours_left_alone(self):
        machine = Machine(1, 1, 3, 2, 0, 0, [(2, 1)])
        works = Works([machine] * 6, Store(8, 8, 8, 1, 1), 30)
        start = (((0, 0),) * 6, 4)
        wants = [4] * 20
        plan = chance_plan(random.Random(84), works, start, 20)
        with self.assertRaises(TooMany):
            least_cost(works, start, wants)
        # A machine that has fallen for long leaves 32 * 9 = 288 positions behind each hour, and one at first.
        for left, refused in [(17, False), (18, True), (20, True), (1, False), (0, False)]:
            with soon(20):
                try:
                    told = mended(works, start, wants, plan, 20 - left, 2, 48)
                    self.assertFalse(refused, left)
                    self.assertEqual(told[1][:20 - left], plan[:20 - left])
                except TooMany as taken:
                    self.assertTrue(refused, left)
                    self.assertEqual(taken.limit, 5000)
        # One that falls for an hour has one state behind that hour, and two behind each later one.
        for left, refused in [(8, False), (9, False), (10, True)]:
            many = 1 + 288 + 576 * (left - 1)
            self.assertEqual(many > 5000, refused)
            with soon(20):
                try:
                    mended(works, start, wants, plan, 20 - left, 2, 1)
                    self.assertFalse(refused, left)
                except TooMany as taken:
                    self.assertTrue(refused, left)
        self.assertEqual(len(plan), 20)

    def test_handed_lists_stay_and_told_ones_may_be_changed(self):
        works = Works([FIRST, SECOND], Store(2, 1, 1, 2, 2), 9)
        start = (((1, 0), (0, 1)), 1)
        wants = [5, 2, 7]
        plan = cheapest_plan(works, start, wants)[1]
        kept = list(plan)
        for hour in range(4):
            told = mended(works, start, wants, plan, hour, 0, 2)
            first = copy.deepcopy(told)
            told[1].append("changed")
            told[1][0] = "changed"
            self.assertEqual((plan, wants), (kept, [5, 2, 7]))
            self.assertEqual(mended(works, start, wants, plan, hour, 0, 2), first)


if __name__ == "__main__":
    unittest.main()
