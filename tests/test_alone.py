import copy
import unittest

from helper import (BIG, first_fault, good_runs, keeps_stints, least_by_change, plain, rows, slow_gain,
                    slow_run_worth, soon, states_of)
from stintwise.alone import cheapest_run, run_worth, run_worths
from stintwise.errors import NotNow
from stintwise.machines import Machine
from stintwise.runs import run_fault
from stintwise.states import states_after

BY_HAND = Machine(2, 3, 5, 1, 2, 4, [(3, 2), (2, 7)])
LONG = [1, 1, 0, 0, 0] * 9 + [1, 1, 0]


def machines():
    return [
        BY_HAND,
        Machine(1, 1, 3, 2, 1, 0, [(2, 1), (1, 3)]),
        Machine(3, 1, 0, 0, 0, 2, []),
        Machine(1, 4, 7, 0, 3, 1, [(1, 0), (1, 5)]),
        Machine(2, 2, 4, 9, 0, 1, [(2, 2), (2, 2)]),
        Machine(3, 2, 6, 1, 1, 0, [(4, 3)]),
        plain(up=2, down=2),
        plain(),
        plain(up=12, down=12, begin=1),
    ]


def price_rows(machine, hours):
    """Rows of prices at 0, at the machine's rates, one beside them, and at the greatest price."""
    rates = [rate for amount, rate in machine.pieces] or [3]
    near = sorted({max(rate + more, 0) for rate in rates for more in (-1, 0, 1)})
    single = [[0] * hours, [BIG] * hours] + [[price] * hours for price in near]
    mixed = [near[hour % len(near)] for hour in range(hours)]
    return single + [mixed, mixed[::-1], [(hour * 5 + 2) % 9 for hour in range(hours)],
                     [0 if hour % 3 else BIG for hour in range(hours)]]


class Worth(unittest.TestCase):

    def test_by_hand(self):
        # At price 3 an hour gains 4 * 3 + 3 * 1, at price 7 it gains 4 * 7 + 3 * 5, at 0 nothing.
        self.assertEqual(run_worth(BY_HAND, (0, 0), [3, 7, 0], [1, 1, 0]), 5 + 1 - 15 + 1 - 43 + 2)
        self.assertEqual(run_worth(BY_HAND, (1, 0), [3, 7, 0], [1, 1, 0]), 1 - 15 + 1 - 43 + 2)
        self.assertEqual(run_worth(BY_HAND, (0, 0), [3, 7, 0], [0, 1, 1]), 2 + 5 + 1 - 43 + 1)
        self.assertEqual(run_worth(BY_HAND, (0, 0), [0, 0], [1, 1]), 7)
        self.assertEqual(run_worth(BY_HAND, (0, 0), [0, 0], [0, 0]), 4)
        self.assertEqual(run_worth(BY_HAND, (1, 1), [BIG], [1]), 1 - 9 * BIG + 20)

    def test_no_hours(self):
        for machine in machines():
            for state in states_of(machine):
                self.assertEqual(run_worth(machine, state, [], []), 0)

    def test_few_hours_and_refusals(self):
        for machine in machines():
            for state in states_of(machine, 3):
                for prices in price_rows(machine, 4):
                    for run in rows(4):
                        self.check(machine, state, prices, run)

    def check(self, machine, state, prices, run):
        if keeps_stints(machine, state, run):
            self.assertEqual(run_worth(machine, state, prices, run), slow_run_worth(machine, state, prices, run))
            return
        with self.assertRaises(NotNow) as taken:
            run_worth(machine, state, prices, run)
        self.assertEqual(taken.exception.at, first_fault(machine, state, run))

    def test_forty_eight_hours(self):
        self.assertEqual(len(LONG), 48)
        for prices in price_rows(BY_HAND, 48):
            told = run_worth(BY_HAND, (0, 0), prices, LONG)
            gains = sum(slow_gain(BY_HAND, price) for price, on in zip(prices, LONG) if on)
            self.assertEqual(told, 5 * 10 + 1 * 20 + 2 * 28 - gains)
        for run, hour in [(LONG[:45] + [0, 1, 0], 47), ([1, 0] + LONG[2:], 1), (LONG[:23] + [1] + LONG[24:], 23)]:
            self.assertEqual(run_fault(BY_HAND, (0, 0), run), hour)
            with self.assertRaises(NotNow) as taken:
                run_worth(BY_HAND, (0, 0), [7] * 48, run)
            self.assertEqual(taken.exception.at, hour)

    def test_great_numbers(self):
        machine = Machine(1, 1, BIG, BIG, BIG, BIG, [(BIG, 0), (BIG, 1), (BIG, BIG - 1), (BIG, BIG)])
        gain = BIG * BIG + BIG * BIG + BIG * (BIG - 1) + BIG
        self.assertEqual(run_worth(machine, (0, 0), [BIG] * 48, [1] * 48), BIG + 48 * (BIG - gain))
        self.assertEqual(run_worth(machine, (0, 0), [BIG] * 48, [0] * 48), 48 * BIG)
        self.assertEqual(run_worth(machine, (0, 0), [0] * 48, [1, 0] * 24), 24 * 3 * BIG)


class Cheapest(unittest.TestCase):

    def test_no_hours(self):
        for machine in machines():
            for state in states_of(machine):
                self.assertEqual(cheapest_run(machine, state, []), (0, []))
                self.assertEqual(run_worths(machine, state, []), [[(state, 0)]])

    def test_by_hand(self):
        machine = Machine(2, 1, 10, 0, 1, 1, [])
        self.assertEqual(cheapest_run(machine, (0, 0), [5, 5]), (0, [1, 1]))
        self.assertEqual(cheapest_run(machine, (0, 0), [4, 5]), (1, [1, 1]))
        self.assertEqual(cheapest_run(machine, (0, 0), [4, 4]), (2, [0, 0]))
        self.assertEqual(cheapest_run(machine, (1, 0), [0, 0]), (0, [1, 1]))
        self.assertEqual(cheapest_run(machine, (0, 1), [50, 50]), (-39, [0, 1]))
        self.assertEqual(run_worths(machine, (0, 0), [5, 5]),
                         [[((0, 0), 0)], [((0, 0), 1), ((1, 1), -5)], [((0, 0), 0), ((1, 0), 0), ((1, 1), 0)]])

    def test_against_all_runs(self):
        for machine in machines():
            for state in states_of(machine, 5):
                for hours in (1, 2, 5):
                    runs = good_runs(machine, state, hours)
                    for prices in price_rows(machine, hours):
                        worths = [slow_run_worth(machine, state, prices, run) for run in runs]
                        first = runs[worths.index(min(worths))]
                        self.assertEqual(cheapest_run(machine, state, prices), (min(worths), first))

    def test_many_runs_of_the_same_worth(self):
        idle = plain(up=2, down=2)
        self.assertEqual(cheapest_run(idle, (0, 0), [4] * 48), (0, [0] * 48))
        self.assertEqual(cheapest_run(idle, (1, 1), [4] * 48), (0, [1] + [0] * 47))
        # Each hour of running is worth as much as one of resting, and any beginning takes something.
        even = Machine(1, 1, 0, 6, 1, 1, [])
        self.assertEqual(cheapest_run(even, (1, 0), [5] * 48), (48, [0] * 48))
        self.assertEqual(cheapest_run(even, (1, 0), [5] * 24 + [6] + [5] * 23), (47, [0] * 24 + [1] + [0] * 23))
        dear = Machine(2, 1, 1, 6, 1, 1, [])
        self.assertEqual(cheapest_run(dear, (1, 1), [5] * 6), (6, [1, 0, 0, 0, 0, 0]))
        self.assertEqual(cheapest_run(dear, (0, 0), [5] * 3 + [7] + [5] * 2), (5, [0, 0, 0, 1, 1, 0]))

    def test_more_due_than_down(self):
        machine = Machine(1, 2, 0, 0, 0, 1, [])
        for due in range(60):
            rests = min(due, 48)
            told = cheapest_run(machine, (0, due), [3] * 48)
            self.assertEqual(told, (-3 * (48 - rests), [0] * rests + [1] * (48 - rests)))

    def test_forty_eight_hours_answer_soon(self):
        for machine in machines() + [Machine(12, 12, 50, 3, 2, 1, [(1, 1), (2, 3), (1, 6), (1, 6)])]:
            for state in [(0, 0), (1, machine.up - 1), (0, 7), (0, 47), (0, 59)]:
                for prices in price_rows(machine, 48):
                    with soon(20):
                        told = cheapest_run(machine, state, prices)
                        table = run_worths(machine, state, prices)
                    self.assertEqual(told, least_by_change(machine, state, prices))
                    self.assertEqual(dict(table[0]), {state: told[0]})


class Tables(unittest.TestCase):

    def test_states_and_worths(self):
        for machine in machines():
            for state in states_of(machine, 4):
                for prices in price_rows(machine, 4):
                    table = run_worths(machine, state, prices)
                    self.assertEqual(len(table), 5)
                    for hour, entries in enumerate(table):
                        self.assertEqual([entry[0] for entry in entries], states_after(machine, state, hour))
                        self.check(machine, prices[hour:], entries)
                    self.assertEqual(table[0], [(state, cheapest_run(machine, state, prices)[0])])
                    self.assertEqual({worth for place, worth in table[4]}, {0})

    def check(self, machine, prices, entries):
        for place, worth in entries:
            runs = good_runs(machine, place, len(prices))
            self.assertEqual(worth, min(slow_run_worth(machine, place, prices, run) for run in runs))

    def test_kinds(self):
        table = run_worths(BY_HAND, (0, 1), [3, 7, 2, 9])
        self.assertIsInstance(table, list)
        for entries in table:
            self.assertIsInstance(entries, list)
            self.assertTrue(all(isinstance(entry, tuple) and len(entry) == 2 for entry in entries))
        told = cheapest_run(BY_HAND, (0, 1), [3, 7, 2, 9])
        self.assertIsInstance(told, tuple)
        self.assertIsInstance(told[1], list)

    def test_forty_eight_hours(self):
        prices = [(hour * 7 + 3) % 10 for hour in range(48)]
        table = run_worths(BY_HAND, (0, 0), prices)
        self.assertEqual(len(table), 49)
        for hour in range(49):
            self.assertEqual([entry[0] for entry in table[hour]], states_after(BY_HAND, (0, 0), hour))
            for place, worth in table[hour]:
                self.assertEqual(worth, least_by_change(BY_HAND, place, prices[hour:])[0])


class OwnLists(unittest.TestCase):

    def test_told_lists_are_the_askers_own(self):
        prices = [3, 7, 2, 9]
        table = run_worths(BY_HAND, (0, 0), prices)
        kept = copy.deepcopy(table)
        worth, run = cheapest_run(BY_HAND, (0, 0), prices)
        first = list(run)
        for entries in table:
            entries.append("changed")
        table.append("changed")
        run.append("changed")
        self.assertEqual(run_worths(BY_HAND, (0, 0), prices), kept)
        self.assertEqual(cheapest_run(BY_HAND, (0, 0), prices), (worth, first))
        self.assertEqual(run, first + ["changed"])
        self.assertEqual(table, [entries + ["changed"] for entries in kept] + ["changed"])
        nothing = run_worths(BY_HAND, (0, 0), [])
        nothing[0].clear()
        self.assertEqual(run_worths(BY_HAND, (0, 0), []), [[((0, 0), 0)]])

    def test_handed_lists_stay_and_are_looked_at_anew(self):
        machine = Machine(1, 1, 0, 4, 0, 1, [])
        prices = [3, 5]
        run = [1, 1]
        self.assertEqual(run_worth(machine, (0, 0), prices, run), 0)
        self.assertEqual(cheapest_run(machine, (0, 0), prices), (-1, [0, 1]))
        self.assertEqual(run_worths(machine, (0, 0), prices)[0], [((0, 0), -1)])
        self.assertEqual((prices, run), ([3, 5], [1, 1]))
        prices[0] = 6
        run[1] = 0
        self.assertEqual(run_worth(machine, (0, 0), prices, run), -2)
        self.assertEqual(cheapest_run(machine, (0, 0), prices), (-3, [1, 1]))
        self.assertEqual(run_worths(machine, (0, 0), prices)[0], [((0, 0), -3)])
        self.assertEqual((prices, run), ([6, 5], [1, 0]))

    def test_what_was_refused_is_taken_as_soon_as_it_is_right(self):
        run = [1, 0, 0]
        with self.assertRaises(NotNow) as taken:
            run_worth(BY_HAND, (0, 0), [3, 7, 0], run)
        self.assertEqual((taken.exception.at, run), (1, [1, 0, 0]))
        run[1] = 1
        self.assertEqual(run_worth(BY_HAND, (0, 0), [3, 7, 0], run), -49)


if __name__ == "__main__":
    unittest.main()
