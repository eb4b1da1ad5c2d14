import unittest

from helper import count_by_change, keeps_stints, plain, rows, soon, spans, states_of
from stintwise.errors import TooMany
from stintwise.runs import run_fault
from stintwise.stints import all_runs, run_count, stints_of


class Stints(unittest.TestCase):

    def test_by_hand(self):
        self.assertEqual(stints_of([]), [])
        self.assertEqual(stints_of([0]), [(0, 0, 1)])
        self.assertEqual(stints_of([1]), [(1, 0, 1)])
        self.assertEqual(stints_of([1, 1, 1]), [(1, 0, 3)])
        self.assertEqual(stints_of([0] * 48), [(0, 0, 48)])
        self.assertEqual(stints_of([0, 1, 1, 0, 0, 0, 1]), [(0, 0, 1), (1, 1, 2), (0, 3, 3), (1, 6, 1)])
        self.assertEqual(stints_of([1, 0] * 24), [(1 - hour % 2, hour, 1) for hour in range(48)])

    def test_laid_one_behind_another_they_are_the_run(self):
        for hours in range(9):
            for run in rows(hours):
                handed = list(run)
                told = stints_of(handed)
                self.assertEqual(handed, run)
                laid = []
                for on, first, many in told:
                    self.assertEqual(first, len(laid))
                    self.assertGreaterEqual(many, 1)
                    laid.extend([on] * many)
                self.assertEqual(laid, run)
                ways = [stint[0] for stint in told]
                self.assertTrue(all(one != other for one, other in zip(ways, ways[1:])))

    def test_told_lists_are_the_askers_own(self):
        run = [1, 1, 0]
        told = stints_of(run)
        told.append("changed")
        stints_of([]).append("changed")
        self.assertEqual(stints_of(run), [(1, 0, 2), (0, 2, 1)])
        self.assertEqual(stints_of([]), [])
        run[1] = 0
        self.assertEqual(stints_of(run), [(1, 0, 1), (0, 1, 2)])
        self.assertEqual(told, [(1, 0, 2), (0, 2, 1), "changed"])


class Counts(unittest.TestCase):

    def test_no_hours(self):
        for machine in spans():
            for state in states_of(machine):
                self.assertEqual(run_count(machine, state, 0), 1)
                self.assertEqual(all_runs(machine, state, 0, 1), [[]])

    def test_against_all_rows(self):
        for machine in spans():
            for state in states_of(machine, 8):
                for hours in range(8):
                    kept = [run for run in rows(hours) if keeps_stints(machine, state, run)]
                    self.assertEqual(run_count(machine, state, hours), len(kept), (state, hours))
                    self.assertEqual(all_runs(machine, state, hours, 500), kept, (state, hours))

    def test_runs_are_just_those_without_fault(self):
        machine = plain(up=2, down=3)
        for state in states_of(machine, 5):
            kept = [run for run in rows(6) if run_fault(machine, state, run) is None]
            self.assertEqual(all_runs(machine, state, 6, 500), kept)

    def test_forty_eight_hours(self):
        with soon():
            self.assertEqual(run_count(plain(1, 1), (0, 0), 48), 1 << 48)
            self.assertEqual(run_count(plain(1, 1), (0, 47), 48), 2)
            self.assertEqual(run_count(plain(1, 1), (0, 48), 48), 1)
            self.assertEqual(run_count(plain(1, 1), (0, 59), 48), 1)
            for machine in spans():
                for on, due in states_of(machine):
                    expected = count_by_change(machine.up, machine.down, on, due, 48)
                    self.assertEqual(run_count(machine, (on, due), 48), expected)


class Most(unittest.TestCase):

    def refused(self, machine, state, hours, most):
        with self.assertRaises(TooMany) as taken:
            all_runs(machine, state, hours, most)
        self.assertEqual(taken.exception.limit, most)

    def test_at_the_count_and_beside_it(self):
        for machine in spans():
            for state in [(0, 0), (0, 3), (1, 0), (1, machine.up - 1)]:
                for hours in [0, 1, 5, 8]:
                    count = run_count(machine, state, hours)
                    self.refused(machine, state, hours, 0)
                    self.refused(machine, state, hours, count - 1)
                    told = all_runs(machine, state, hours, count)
                    self.assertEqual(len(told), count)
                    self.assertEqual(all_runs(machine, state, hours, count + 1), told)

    def test_about_five_hundred(self):
        machine = plain(1, 1)
        self.assertEqual(all_runs(machine, (0, 0), 8, 500), rows(8))
        self.refused(machine, (0, 0), 9, 500)
        self.refused(machine, (0, 0), 8, 255)
        self.assertEqual(len(all_runs(machine, (0, 0), 8, 256)), 256)

    def test_very_many_are_refused_soon(self):
        with soon():
            self.refused(plain(1, 1), (0, 0), 48, 500)
            self.refused(plain(2, 2), (1, 1), 48, 0)
            self.refused(plain(12, 12), (0, 0), 48, 500)

    def test_few_runs_over_many_hours(self):
        machine = plain(3, 2)
        self.assertEqual(all_runs(machine, (0, 59), 48, 1), [[0] * 48])
        self.assertEqual(all_runs(machine, (0, 47), 48, 2), [[0] * 48, [0] * 47 + [1]])

    def test_told_lists_are_the_askers_own(self):
        machine = plain(2, 1)
        for hours in [0, 3]:
            told = all_runs(machine, (0, 0), hours, 500)
            kept = [list(run) for run in told]
            for run in told:
                run.append("changed")
            told.append("changed")
            self.assertEqual(all_runs(machine, (0, 0), hours, 500), kept)
            self.assertEqual(told[0], kept[0] + ["changed"])
        told = all_runs(machine, (0, 0), 3, 500)
        told[0][0] = "changed"
        self.assertEqual(sum("changed" in run for run in told), 1)


if __name__ == "__main__":
    unittest.main()
