import unittest

from helper import BIG, first_fault, keeps_stints, plain, rows, spans, states_of
from stintwise.errors import NotNow
from stintwise.machines import Machine
from stintwise.runs import run_begins, run_cost, run_fault, run_state

LONG = [1, 1, 1, 0, 0] * 9 + [1, 1, 1]


class Faults(unittest.TestCase):

    def test_no_hours(self):
        for machine in spans():
            for state in states_of(machine):
                self.assertIsNone(run_fault(machine, state, []))

    def test_at_the_first_a_middle_and_the_last_hour(self):
        machine = plain(up=3, down=2)
        self.assertEqual(run_fault(machine, (1, 2), [0, 1, 1, 1]), 0)
        self.assertEqual(run_fault(machine, (0, 1), [1, 1, 1, 0]), 0)
        self.assertEqual(run_fault(machine, (0, 0), [1, 1, 0, 1]), 2)
        self.assertEqual(run_fault(machine, (1, 0), [0, 1, 1, 1]), 1)
        self.assertEqual(run_fault(machine, (1, 1), [1, 0, 0, 1, 0]), 4)
        self.assertIsNone(run_fault(machine, (1, 1), [1, 0, 0, 1, 1]))
        self.assertEqual(run_fault(machine, (0, 3), [0, 0, 1]), 2)
        self.assertIsNone(run_fault(machine, (0, 3), [0, 0, 0, 1]))

    def test_only_the_first_of_several_is_told(self):
        machine = plain(up=3, down=2)
        self.assertEqual(run_fault(machine, (0, 0), [1, 0, 1, 0, 1]), 1)

    def test_forty_eight_hours(self):
        machine = plain(up=3, down=2)
        self.assertEqual(len(LONG), 48)
        self.assertIsNone(run_fault(machine, (0, 0), LONG))
        self.assertEqual(run_fault(machine, (0, 1), LONG), 0)
        self.assertEqual(run_fault(machine, (0, 0), LONG[:47] + [0]), 47)
        self.assertEqual(run_fault(machine, (0, 0), LONG[:24] + [1] + LONG[25:]), 24)
        self.assertIsNone(run_fault(machine, (0, 59), [0] * 48))
        self.assertEqual(run_fault(machine, (0, 48), [0] * 47 + [1]), 47)
        self.assertIsNone(run_fault(machine, (0, 47), [0] * 47 + [1]))

    def test_against_the_lengths_of_stints(self):
        for machine in spans():
            for state in states_of(machine, 7):
                for run in rows(7):
                    self.assertEqual(run_fault(machine, state, run), first_fault(machine, state, run), (state, run))


class WholeRuns(unittest.TestCase):

    def test_no_hours(self):
        machine = Machine(3, 2, 100, 10, 1, 0, [])
        for state in states_of(machine):
            self.assertEqual(run_state(machine, state, []), state)
            self.assertEqual(run_begins(machine, state, []), [])
            self.assertEqual(run_cost(machine, state, []), 0)

    def test_by_hand(self):
        machine = Machine(3, 2, 100, 10, 1, 0, [])
        run = [0, 1, 1, 1, 0, 0, 1]
        self.assertEqual(run_state(machine, (0, 1), run), (1, 2))
        self.assertEqual(run_begins(machine, (0, 1), run), [1, 6])
        self.assertEqual(run_cost(machine, (0, 1), run), 243)
        self.assertEqual(run_state(machine, (1, 0), run[1:]), (1, 2))
        self.assertEqual(run_begins(machine, (1, 0), run[1:]), [5])
        self.assertEqual(run_cost(machine, (1, 0), run[1:]), 142)
        self.assertEqual(run_begins(machine, (0, 0), run[1:]), [0, 5])
        self.assertEqual(run_cost(machine, (0, 0), run[1:]), 242)
        self.assertEqual(run_state(machine, (0, 9), [0, 0]), (0, 7))
        self.assertEqual(run_state(machine, (1, 2), [1]), (1, 1))
        self.assertEqual(run_state(machine, (1, 0), [0]), (0, 1))

    def test_forty_eight_hours(self):
        machine = Machine(3, 2, BIG, BIG - 1, BIG - 2, 0, [])
        self.assertEqual(run_state(machine, (0, 0), LONG), (1, 0))
        self.assertEqual(run_begins(machine, (0, 0), LONG), list(range(0, 48, 5)))
        self.assertEqual(run_cost(machine, (0, 0), LONG), 10 * BIG + 30 * (BIG - 1) + 18 * (BIG - 2))
        self.assertEqual(run_begins(machine, (1, 0), LONG), list(range(5, 48, 5)))
        self.assertEqual(run_cost(machine, (1, 0), LONG), 9 * BIG + 30 * (BIG - 1) + 18 * (BIG - 2))

    def test_all_rows(self):
        for up, down in [(1, 1), (2, 3), (3, 1)]:
            machine = Machine(up, down, 100, 10, 1, 0, [])
            for state in states_of(machine, 4):
                for hours in range(7):
                    for run in rows(hours):
                        self.check(machine, state, run)

    def check(self, machine, state, run):
        if not keeps_stints(machine, state, run):
            self.refused(machine, state, run)
            return
        ahead = [state[0]] + run
        begins = [hour for hour in range(len(run)) if ahead[hour] < run[hour]]
        self.assertEqual(run_begins(machine, state, run), begins)
        ones = sum(run)
        self.assertEqual(run_cost(machine, state, run), 100 * len(begins) + 10 * ones + len(run) - ones)
        # What may come next tells the state behind: as long as something is due, just one way.
        on, due = run_state(machine, state, run)
        self.assertEqual(on, ahead[-1])
        self.assertIs(keeps_stints(machine, state, run + [on] * due + [1 - on]), True)
        if due > 0:
            self.assertIs(keeps_stints(machine, state, run + [on] * (due - 1) + [1 - on]), False)

    def refused(self, machine, state, run):
        for asked in [run_state, run_begins, run_cost]:
            with self.assertRaises(NotNow) as taken:
                asked(machine, state, run)
            self.assertEqual(taken.exception.at, first_fault(machine, state, run))

    def test_refused_at_the_hour_of_the_fault(self):
        machine = plain(up=3, down=2)
        for state, run, hour in [((1, 2), [0, 1], 0), ((0, 0), [1, 1, 0, 1], 2), ((1, 1), [1, 0, 0, 1, 0], 4),
                                 ((0, 0), LONG[:47] + [0], 47), ((0, 48), [0] * 47 + [1], 47)]:
            self.assertEqual(first_fault(machine, state, run), hour)
            self.assertEqual(run_fault(machine, state, run), hour)
            self.refused(machine, state, run)


class OwnLists(unittest.TestCase):

    def test_the_run_stays_and_changed_in_place_is_looked_at_anew(self):
        machine = Machine(3, 2, 100, 10, 1, 0, [])
        run = [1, 1, 0, 1]
        for asked in [run_state, run_begins, run_cost]:
            with self.assertRaises(NotNow) as taken:
                asked(machine, (0, 0), run)
            self.assertEqual(taken.exception.at, 2)
        self.assertEqual(run, [1, 1, 0, 1])
        run[2] = 1
        self.assertIsNone(run_fault(machine, (0, 0), run))
        self.assertEqual(run_state(machine, (0, 0), run), (1, 0))
        self.assertEqual(run_begins(machine, (0, 0), run), [0])
        self.assertEqual(run_cost(machine, (0, 0), run), 140)
        self.assertEqual(run, [1, 1, 1, 1])
        run[3] = 0
        self.assertEqual(run_state(machine, (0, 0), run), (0, 1))
        self.assertEqual(run_cost(machine, (0, 0), run), 131)
        run.append(1)
        self.assertEqual(run_fault(machine, (0, 0), run), 4)
        self.assertEqual(run, [1, 1, 1, 0, 1])

    def test_told_lists_are_the_askers_own(self):
        machine = plain(up=3, down=2)
        for run in [[], [1, 1, 1, 0, 0, 1]]:
            first = run_begins(machine, (0, 0), run)
            kept = list(first)
            first.append("changed")
            self.assertEqual(run_begins(machine, (0, 0), run), kept)
            self.assertEqual(run_cost(machine, (0, 0), run), 0)
            self.assertEqual(first, kept + ["changed"])


if __name__ == "__main__":
    unittest.main()
