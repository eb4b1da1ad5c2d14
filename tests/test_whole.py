import copy
import random
import unittest

from helper import (BIG, all_plans, chance_works, forward_least, plain, slow_cheapest, slow_plan_cost, slow_plan_fault,
                    slow_positions, small_works, soon)
from stintwise.bounds import price_bound
from stintwise.climbs import climbed
from stintwise.errors import StintError, TooMany
from stintwise.ledgers import plan_cost
from stintwise.machines import Machine
from stintwise.plans import left_over, plan_fault, position_behind
from stintwise.shares import share_out
from stintwise.stores import Store
from stintwise.whole import cheapest_plan, least_cost, plan_worths
from stintwise.works import Works, is_position

FIRST = Machine(2, 3, 5, 1, 2, 4, [(3, 2), (2, 7)])
SECOND = Machine(1, 1, 3, 2, 0, 0, [(2, 1), (1, 3)])

# Tuples (ups and downs, cap into and out of a store, position, hours, positions that can be reached together).
COUNTED = [
    ([(12, 5)], (7, 1, 0), (((1, 2),), 0), 46, 5000),
    ([(3, 10), (3, 6)], (4, 3, 7), (((0, 3), (0, 1)), 0), 17, 5000),
    ([(12, 7), (12, 7)], None, (((0, 3), (0, 3)), 0), 28, 5000),
    ([(1, 11), (8, 5)], (5, 7, 0), (((1, 0), (1, 7)), 5), 44, 5000),
    ([(2, 3), (8, 9), (2, 2)], None, (((0, 0), (0, 0), (0, 0)), 0), 22, 5000),
    ([(7, 10), (1, 5), (6, 3), (5, 8)], (7, 1, 7), (((0, 0), (1, 0), (1, 2), (0, 3)), 4), 5, 5000),
    ([(4, 12), (7, 7), (8, 12), (4, 8), (2, 1)], None,
     (((0, 0), (1, 0), (0, 40), (0, 40), (1, 1)), 0), 16, 5000),
    ([(11, 9)], (8, 4, 2), (((1, 7),), 5), 43, 5001),
    ([(9, 9), (4, 1)], (5, 1, 3), (((0, 0), (1, 0)), 3), 17, 5001),
    ([(6, 6), (6, 4)], None, (((0, 0), (1, 1)), 0), 48, 5001),
    ([(1, 3), (7, 3), (4, 5), (9, 10)], (1, 0, 7), (((0, 0), (1, 1), (0, 3), (0, 3)), 1), 8, 5001),
    ([(12, 9), (3, 10), (10, 6), (9, 1), (1, 7)], (5, 1, 0),
     (((0, 1), (0, 40), (0, 0), (0, 40), (0, 0)), 3), 8, 5001),
]


def counted():
    """Tuples (works, position, hours, positions that can be reached together)."""
    for spans, depths, position, hours, many in COUNTED:
        machines = [Machine(up, down, 4, 1, 0, 1, [(2, at)]) for at, (up, down) in enumerate(spans)]
        store = None if depths is None else Store(depths[0], depths[1], depths[2], 3, 2)
        yield Works(machines, store, 9), position, hours, many


def row_of(plan):
    """The ons and levels of a plan."""
    return [(ons, level) for ons, outputs, level in plan]


def chance_cases(seed, many, hours, most=2):
    """Works, positions and wants by chance."""
    chance = random.Random(seed)
    for time in range(many):
        works, position = chance_works(chance, most)
        yield works, position, [chance.choice([0, chance.randrange(9)]) for hour in range(hours)]


class Least(unittest.TestCase):

    def test_no_hours(self):
        for works, position in small_works():
            self.assertEqual(least_cost(works, position, []), 0)
            self.assertEqual(cheapest_plan(works, position, []), (0, []))
            self.assertEqual(plan_worths(works, position, []), [[(position, 0)]])

    def test_no_machines(self):
        works = Works([], None, 9)
        self.assertEqual(cheapest_plan(works, ((), 0), [3, 0, 5]), (72, [((), (), 0)] * 3))
        self.assertEqual(least_cost(works, ((), 0), [BIG] * 48), 48 * 9 * BIG)
        works = Works([], Store(3, 1, 2, 4, 3), 9)
        self.assertEqual(cheapest_plan(works, ((), 2), [3, 2, 0]), (0, [((), (), 1), ((), (), 0), ((), (), 0)]))
        # Now 2 are let lack, so that 3 are there for the 7.
        self.assertEqual(cheapest_plan(works, ((), 2), [3, 2, 7]), (54, [((), (), 1), ((), (), 1), ((), (), 0)]))
        # Taking in 4 costs more than the 3 that are given out later are worth.
        self.assertEqual(least_cost(works, ((), 0), [3, 2, 0]), 45)

    def test_by_hand(self):
        # Lacking costs 9; to begin costs 5 and to run 1, so that running pays from the first hour on.
        works = Works([FIRST], None, 9)
        self.assertEqual(cheapest_plan(works, (((0, 0),), 0), [5, 4]),
                         (5 + 1 + 2 + 1, [((1,), (5,), 0), ((1,), (4,), 0)]))
        self.assertEqual(cheapest_plan(works, (((0, 1),), 0), [5, 4]), (2 + 45 + 6, [((0,), (0,), 0), ((1,), (4,), 0)]))
        self.assertEqual(cheapest_plan(works, (((0, 5),), 0), [1, 0]), (4 + 9, [((0,), (0,), 0)] * 2))
        self.assertEqual(cheapest_plan(works, (((1, 1),), 0), [0, 0]), (2, [((1,), (4,), 0)] * 2))

    def test_cost_against_all_plans(self):
        for works, position, wants in chance_cases(61, 60, 2):
            least = min(slow_plan_cost(works, position, wants, plan) for plan in all_plans(works, position, 2))
            self.assertEqual(least_cost(works, position, wants), least)

    def test_cost_and_plan_against_all_rows(self):
        for works, position, wants in list(chance_cases(62, 150, 3)) + list(chance_cases(63, 25, 2, 3)):
            cost, row = slow_cheapest(works, position, wants)
            self.assertEqual(least_cost(works, position, wants), cost)
            told, plan = cheapest_plan(works, position, wants)
            self.assertEqual((told, row_of(plan)), (cost, row))

    def test_small_works(self):
        for works, position in small_works():
            hours = {6: 1, 3: 3}.get(len(works.machines), 4 if len(works.machines) < 2 else 3)
            for wants in [[0] * hours, [7] * hours, [11, 0, 6, 14][:hours], [1, 13, 2, 9][:hours]]:
                cost, row = slow_cheapest(works, position, wants)
                told, plan = cheapest_plan(works, position, wants)
                self.assertEqual((told, row_of(plan)), (cost, row))
                self.assertEqual(least_cost(works, position, wants), cost)

    def test_more_due_than_down(self):
        machine = Machine(2, 3, 5, 1, 2, 1, [(3, 2)])
        for due in [0, 1, 2, 3, 4, 5, 40, 59]:
            for works in [Works([machine], None, 9), Works([machine, SECOND], Store(1, 1, 1, 2, 2), 9)]:
                position = (((0, due), (1, 0))[:len(works.machines)], 0)
                wants = [4, 1, 5, 3, 6][:5 if works.store is None else 4]
                cost, row = slow_cheapest(works, position, wants)
                told, plan = cheapest_plan(works, position, wants)
                self.assertEqual((told, row_of(plan)), (cost, row))
                self.assertTrue(all(ons[0] == 0 for ons, outputs, level in plan[:due]))

    def test_many_hours(self):
        for works, position in small_works()[:-1]:
            wants = [(hour * 7 + 3) % 13 for hour in range(20)]
            with soon(30):
                cost, plan = cheapest_plan(works, position, wants)
            self.assertEqual(cost, forward_least(works, position, wants))
            self.assertIsNone(plan_fault(works, position, wants, plan))
            self.assertEqual(plan_cost(works, position, wants, plan), cost)

    def test_never_below_a_bound_by_prices(self):
        for works, position, wants in chance_cases(64, 40, 6):
            cost = least_cost(works, position, wants)
            prices, bound, still = climbed(works, position, wants, [0] * 6, 8)
            self.assertLessEqual(bound, cost)
            self.assertLessEqual(price_bound(works, position, wants, [works.lack] * 6), cost)

    def test_great_numbers(self):
        machine = Machine(1, 1, BIG, BIG, BIG, BIG, [(BIG, BIG)] * 4)
        works = Works([machine, machine], Store(8, 8, 8, BIG, BIG), BIG)
        start = (((0, 0), (0, 0)), 8)
        with soon(30):
            cost, plan = cheapest_plan(works, start, [BIG] * 12)
        self.assertEqual(plan_cost(works, start, [BIG] * 12, plan), cost)
        # Running costs as much as resting. The store has 8 hours' wants; for the others a machine begins once.
        self.assertEqual(cost, 12 * 2 * BIG + BIG)
        nothing = Works([], None, BIG)
        self.assertEqual(least_cost(nothing, ((), 0), [BIG] * 48), 48 * BIG * BIG)


class Plan(unittest.TestCase):

    def check(self, works, position, wants):
        """What holds of each cheapest plan."""
        told = cheapest_plan(works, position, wants)
        self.assertIsInstance(told, tuple)
        cost, plan = told
        self.assertIsInstance(plan, list)
        self.assertEqual(cost, least_cost(works, position, wants))
        self.assertIsNone(plan_fault(works, position, wants, plan))
        self.assertEqual(plan_cost(works, position, wants, plan), cost)
        level = position[1]
        for want, planned in zip(wants, plan):
            self.assertIsInstance(planned, tuple)
            ons, outputs, later = planned
            self.assertIsInstance(ons, tuple)
            self.assertIsInstance(outputs, tuple)
            self.assertEqual(outputs, self.shared(works, level, want, ons, later))
            level = later
        return plan

    def shared(self, works, level, want, ons, later):
        """The outputs by share_out, of the want and what the store takes in less what it gives out."""
        wanted = want
        if works.store is not None:
            wanted += works.store.takes * max(later - level, 0) - works.store.gives * max(level - later, 0)
        running = [machine for machine, on in zip(works.machines, ons) if on]
        outputs = share_out(running, max(wanted, 0), works.lack)[0]
        return tuple(outputs.pop(0) if on else 0 for on in ons)

    def test_by_chance(self):
        for works, position, wants in chance_cases(65, 150, 5, 3):
            plan = self.check(works, position, wants)
            self.assertIsNone(slow_plan_fault(works, position, wants, plan))
            self.assertEqual(slow_plan_cost(works, position, wants, plan), least_cost(works, position, wants))

    def test_of_small_works(self):
        for works, position in small_works():
            for wants in [[0, 0, 0], [9, 3, 12, 1], [BIG, 0]]:
                self.check(works, position, wants)

    def test_the_rest_is_a_cheapest_plan_for_the_rest(self):
        for works, position, wants in list(chance_cases(66, 80, 6)) + [
                (works, position, [7, 0, 12, 5]) for works, position in small_works()]:
            cost, plan = cheapest_plan(works, position, wants)
            for hour in range(len(wants) + 1):
                behind = position_behind(works, position, plan[:hour])
                rest = cost - plan_cost(works, position, wants[:hour], plan[:hour])
                self.assertEqual(cheapest_plan(works, behind, wants[hour:]), (rest, plan[hour:]))

    def test_the_store_gives_out_more_than_is_wanted(self):
        # Levels cost nothing, and the least ones come first: the store is let go at once.
        works = Works([Machine(3, 1, 0, 0, 0, 2, [(5, 1)])], Store(2, 1, 2, 9, 6), 50)
        start = (((1, 2),), 2)
        self.assertEqual(self.check(works, start, [3]), [((1,), (2,), 0)])
        self.assertEqual(left_over(works, start, [3], [((1,), (2,), 0)]), [(11, 0)])
        self.assertEqual(self.check(works, start, [12]), [((1,), (2,), 0)])
        self.assertEqual(self.check(works, start, [15]), [((1,), (3,), 0)])
        self.assertEqual(self.check(works, start, [6, 8]), [((1,), (2,), 1), ((1,), (2,), 0)])

    def test_the_store_takes_in(self):
        works = Works([Machine(1, 1, 0, 0, 0, 0, [(9, 1)])], Store(1, 1, 1, 4, 4), 50)
        start = (((0, 0),), 0)
        self.assertEqual(self.check(works, start, [3, 13]), [((1,), (7,), 1), ((1,), (9,), 0)])
        self.assertEqual(self.check(works, start, [3, 12]), [((1,), (7,), 1), ((1,), (8,), 0)])
        self.assertEqual(self.check(works, start, [3, 9]), [((1,), (3,), 0), ((1,), (9,), 0)])

    def test_the_least_of_many_alike(self):
        idle = plain(up=2, down=2)
        works = Works([idle, idle, idle], Store(2, 1, 1, 0, 0), 0)
        self.assertEqual(self.check(works, (((0, 0), (1, 1), (1, 0)), 2), [5, 5, 5]),
                         [((0, 1, 0), (0, 0, 0), 1), ((0, 0, 0), (0, 0, 0), 0), ((0, 0, 0), (0, 0, 0), 0)])
        # The latter of two machines just alike, as (0, 1) lies ahead of (1, 0).
        works = Works([SECOND, SECOND], None, 9)
        self.assertEqual(self.check(works, (((0, 0), (0, 0)), 0), [3]), [((0, 1), (0, 3), 0)])
        self.assertEqual(self.check(works, (((0, 0), (0, 0)), 0), [3, 3]), [((0, 1), (0, 3), 0)] * 2)
        # Ons ahead of levels within an hour, and the first hour ahead of the next.
        works = Works([Machine(1, 1, 0, 0, 0, 0, [(2, 0)])], Store(1, 1, 1, 2, 2), 5)
        self.assertEqual(self.check(works, (((0, 0),), 1), [2]), [((0,), (0,), 0)])
        self.assertEqual(self.check(works, (((0, 0),), 1), [2, 2]), [((0,), (0,), 0), ((1,), (2,), 0)])


class Refused(unittest.TestCase):

    def refusals(self, works, position, wants):
        """How often what is asked here is refused, of three."""
        many = 0
        for ask in [least_cost, cheapest_plan, plan_worths]:
            try:
                ask(works, position, wants)
            except TooMany as taken:
                self.assertEqual(taken.limit, 5000)
                self.assertIsInstance(taken, StintError)
                many += 1
        return many

    def test_just_at_the_bound_and_one_more(self):
        for works, position, hours, many in counted():
            self.assertTrue(is_position(works, position))
            self.assertEqual(sum(len(layer) for layer in slow_positions(works, position, hours)), many)
            wants = [(hour * 7) % 11 for hour in range(hours)]
            with soon(30):
                self.assertEqual(self.refusals(works, position, wants), 3 if many > 5000 else 0)
                # With an hour less it is taken, with one more refused.
                self.assertEqual(self.refusals(works, position, wants[1:]), 0)
                self.assertEqual(self.refusals(works, position, wants + [1]), 3)

    def test_counted_hour_by_hour(self):
        for works, position in small_works():
            layers = slow_positions(works, position, 12)
            for hours in range(13):
                many = sum(len(layer) for layer in layers[:hours + 1])
                self.assertEqual(self.refusals(works, position, [0] * hours), 3 if many > 5000 else 0)
        # The last of them has 576 positions behind each hour, and one at first.
        self.assertEqual([len(layer) for layer in layers[:4]], [1, 576, 576, 576])

    def test_what_is_just_taken_answers_soon(self):
        machine = Machine(1, 1, 3, 2, 0, 0, [(2, 1), (1, 3), (4, 5), (9, 8)])
        works = Works([machine] * 6, Store(8, 8, 8, 1, 1), 30)
        start = (((0, 0),) * 6, 4)
        with soon(30):
            self.assertEqual(self.refusals(works, start, [40, 7, 88, 0, 13, 61, 22, 5]), 0)
            self.assertEqual(self.refusals(works, start, [40, 7, 88, 0, 13, 61, 22, 5, 0]), 3)

    def test_far_too_many_are_refused_soon(self):
        machine = plain(up=12, down=12)
        works = Works([machine] * 6, Store(8, 8, 8, 1, 1), 30)
        with soon(10):
            self.assertEqual(self.refusals(works, (((0, 0),) * 6, 4), [1] * 48), 3)

    def test_what_the_positions_cost_and_the_wants_say_nothing(self):
        works = Works([], Store(8, 8, 8, 1, 1), 0)
        self.assertEqual(self.refusals(works, ((), 0), [BIG] * 48), 0)
        resting = Works([plain(up=12, down=12)] * 6, None, 0)
        # Nothing may begin: there is one position behind each hour.
        self.assertEqual(self.refusals(resting, (((0, 59),) * 6, 0), [3] * 48), 0)

    def test_refused_changes_nothing_and_is_taken_as_soon_as_it_is_right(self):
        works, position, hours, many = list(counted())[-1]
        wants = [2] * hours
        self.assertEqual(self.refusals(works, position, wants), 3)
        self.assertEqual(wants, [2] * hours)
        wants.pop()
        self.assertEqual(self.refusals(works, position, wants), 0)


class Worths(unittest.TestCase):

    def check(self, works, position, wants):
        table = plan_worths(works, position, wants)
        self.assertEqual(len(table), len(wants) + 1)
        for hour, layer in enumerate(slow_positions(works, position, len(wants))):
            self.assertEqual([entry[0] for entry in table[hour]], sorted(layer))
        self.assertEqual({cost for place, cost in table[-1]}, {0})
        self.assertEqual(table[0], [(position, least_cost(works, position, wants))])
        return table

    def test_few_hours(self):
        for works, position, wants in chance_cases(67, 60, 3):
            table = self.check(works, position, wants)
            for hour, entries in enumerate(table):
                for place, cost in entries:
                    self.assertEqual(cost, slow_cheapest(works, place, wants[hour:])[0])

    def test_small_works(self):
        for works, position in small_works():
            table = self.check(works, position, [7, 0, 12])
            for hour, entries in enumerate(table):
                for place, cost in entries[::17]:
                    self.assertEqual(cost, least_cost(works, place, [7, 0, 12][hour:]))

    def test_many_hours(self):
        for works, position, hours, many in counted():
            if many == 5000:
                self.check(works, position, [(hour * 5) % 9 for hour in range(hours)])
        works = Works([FIRST], None, 9)
        wants = [(hour * 5) % 9 for hour in range(48)]
        table = self.check(works, (((0, 0),), 0), wants)
        for hour in range(0, 49, 6):
            for place, cost in table[hour]:
                self.assertEqual(cost, forward_least(works, place, wants[hour:]))

    def test_kinds(self):
        table = plan_worths(Works([FIRST, SECOND], Store(3, 1, 2, 4, 3), 9), (((0, 0), (1, 0)), 1), [4, 5])
        self.assertIsInstance(table, list)
        for entries in table:
            self.assertIsInstance(entries, list)
            self.assertTrue(all(isinstance(entry, tuple) and len(entry) == 2 for entry in entries))


class OwnLists(unittest.TestCase):

    def test_what_is_handed_in_stays_and_what_is_told_may_be_changed(self):
        works = Works([FIRST, SECOND], Store(3, 1, 2, 4, 3), 9)
        start = (((0, 0), (1, 0)), 1)
        wants = [5, 12, 3]
        table = plan_worths(works, start, wants)
        cost, plan = cheapest_plan(works, start, wants)
        self.assertEqual(wants, [5, 12, 3])
        self.assertEqual((len(works.machines), start), (2, (((0, 0), (1, 0)), 1)))
        kept = copy.deepcopy((table, plan))
        for entries in table:
            entries.append("changed")
            entries[0] = "changed"
        table.append("changed")
        plan[0] = "changed"
        plan.append("changed")
        self.assertEqual(plan_worths(works, start, wants), kept[0])
        self.assertEqual(cheapest_plan(works, start, wants), (cost, kept[1]))
        self.assertEqual(least_cost(works, start, wants), cost)
        nothing = plan_worths(works, start, [])
        nothing[0].clear()
        cheapest_plan(works, start, [])[1].append("changed")
        self.assertEqual(plan_worths(works, start, []), [[(start, 0)]])
        self.assertEqual(cheapest_plan(works, start, []), (0, []))

    def test_changed_wants_are_looked_at_anew(self):
        works = Works([FIRST], None, 9)
        wants = [5, 4]
        self.assertEqual(least_cost(works, (((0, 0),), 0), wants), 9)
        wants[0] = 6
        self.assertEqual(least_cost(works, (((0, 0),), 0), wants), 11)
        wants.append(0)
        self.assertEqual(cheapest_plan(works, (((0, 0),), 0), wants)[0], 12)


if __name__ == "__main__":
    unittest.main()
