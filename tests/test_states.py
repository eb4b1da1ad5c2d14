import unittest

from helper import BIG, NO_WHOLES, keeps_stints, plain, rows, spans, states_of
from stintwise.errors import NotNow
from stintwise.states import is_state, may_be, state_after, state_felled, states_after


class IsState(unittest.TestCase):

    def test_running_states(self):
        for machine in spans():
            for due in range(-2, 62):
                self.assertIs(is_state(machine, (1, due)), 0 <= due <= machine.up - 1, (machine.up, due))

    def test_resting_states(self):
        for machine in spans():
            for due in range(-2, 62):
                self.assertIs(is_state(machine, (0, due)), 0 <= due <= 59, (machine.down, due))

    def test_other_numbers(self):
        machine = plain(up=3, down=2)
        for on in [-1, 2, 3, 10 ** 69, -10 ** 69]:
            for due in [0, 1, 2]:
                self.assertIs(is_state(machine, (on, due)), False)
        for due in [BIG, 10 ** 69, -10 ** 69]:
            self.assertIs(is_state(machine, (0, due)), False)
            self.assertIs(is_state(machine, (1, due)), False)

    def test_things_of_other_kinds(self):
        machine = plain(up=3, down=2)
        for thing in NO_WHOLES + [0, 1, -1]:
            if thing != (1, 2):
                self.assertIs(is_state(machine, thing), False, thing)
        for thing in [[0, 0], [1, 0], (0,), (1,), (0, 0, 0), (1, 0, 0), "00", "10", {0: 0, 1: 0}, ((0, 0),)]:
            self.assertIs(is_state(machine, thing), False, thing)
        for wrong in NO_WHOLES:
            for right in [0, 1]:
                self.assertIs(is_state(machine, (wrong, right)), False, wrong)
                self.assertIs(is_state(machine, (right, wrong)), False, wrong)


class NextHour(unittest.TestCase):

    def test_may_be_of_every_state(self):
        for machine in spans():
            for on, due in states_of(machine):
                self.assertIs(may_be(machine, (on, due), on), True)
                self.assertIs(may_be(machine, (on, due), 1 - on), due == 0)

    def test_state_after_where_it_goes_on(self):
        for machine in spans():
            for on, due in states_of(machine):
                self.assertEqual(state_after(machine, (on, due), on), (on, due - 1 if due > 0 else 0))

    def test_state_after_where_it_changes(self):
        for machine in spans():
            self.assertEqual(state_after(machine, (0, 0), 1), (1, machine.up - 1))
            self.assertEqual(state_after(machine, (1, 0), 0), (0, machine.down - 1))

    def test_state_after_where_it_may_not(self):
        for machine in spans():
            for on, due in states_of(machine):
                if due > 0:
                    with self.assertRaises(NotNow) as taken:
                        state_after(machine, (on, due), 1 - on)
                    self.assertEqual(taken.exception.at, 0)

    def test_states_told_are_tuples_of_whole_numbers(self):
        machine = plain(up=3, down=2)
        for state, on in [((0, 0), 0), ((0, 0), 1), ((1, 0), 0), ((1, 2), 1), ((0, 5), 0)]:
            told = state_after(machine, state, on)
            self.assertIs(type(told), tuple)
            self.assertEqual([type(number) for number in told], [int, int])


class LaterStates(unittest.TestCase):

    def test_no_hours(self):
        for machine in spans():
            for state in states_of(machine):
                self.assertEqual(states_after(machine, state, 0), [state])

    def test_by_hand(self):
        machine = plain(up=3, down=2)
        self.assertEqual(states_after(machine, (0, 0), 1), [(0, 0), (1, 2)])
        self.assertEqual(states_after(machine, (0, 0), 2), [(0, 0), (1, 1), (1, 2)])
        self.assertEqual(states_after(machine, (0, 0), 4), [(0, 0), (0, 1), (1, 0), (1, 1), (1, 2)])
        self.assertEqual(states_after(machine, (1, 2), 1), [(1, 1)])
        self.assertEqual(states_after(machine, (1, 2), 3), [(0, 1), (1, 0)])
        self.assertEqual(states_after(machine, (0, 3), 2), [(0, 1)])

    def behind(self, machine, state, run):
        """The state behind a run by how long its last stint is."""
        on, due = state
        if not run:
            return state
        many = 0
        while many < len(run) and run[-1 - many] == run[-1]:
            many += 1
        if many == len(run) and run[0] == on:
            return (on, max(0, due - many))
        return (run[-1], max(0, (machine.up if run[-1] else machine.down) - many))

    def test_against_all_rows(self):
        for machine in spans():
            for state in states_of(machine, 7):
                for hours in range(8):
                    kept = [run for run in rows(hours) if keeps_stints(machine, state, run)]
                    expected = sorted({self.behind(machine, state, run) for run in kept})
                    self.assertEqual(states_after(machine, state, hours), expected, (state, hours))

    def test_forty_eight_hours(self):
        machine = plain(up=3, down=2)
        everything = [(0, 0), (0, 1), (1, 0), (1, 1), (1, 2)]
        self.assertEqual(states_after(machine, (0, 0), 48), everything)
        self.assertEqual(states_after(machine, (1, 2), 48), everything)
        self.assertEqual(states_after(machine, (0, 59), 48), [(0, 11)])
        self.assertEqual(states_after(machine, (0, 48), 48), [(0, 0)])
        self.assertEqual(states_after(machine, (0, 47), 48), [(0, 0), (1, 2)])
        longest = plain(up=12, down=12)
        expected = [(0, due) for due in range(12)] + [(1, due) for due in range(12)]
        self.assertEqual(states_after(longest, (1, 5), 48), expected)

    def test_told_lists_are_the_askers_own(self):
        machine = plain(up=3, down=2)
        for hours in [0, 1, 4, 48]:
            first = states_after(machine, (0, 0), hours)
            kept = list(first)
            first.append("changed")
            first[0] = None
            second = states_after(machine, (0, 0), hours)
            self.assertEqual(second, kept)
            second.clear()
            self.assertEqual(states_after(machine, (0, 0), hours), kept)
            self.assertEqual(first[-1], "changed")


class Falls(unittest.TestCase):

    def test_from_running_states(self):
        machine = plain(up=4, down=3)
        for due in range(4):
            told = [state_felled(machine, (1, due), hours) for hours in [1, 2, 3, 4, 5, 47, 48]]
            self.assertEqual(told, [(0, 3), (0, 3), (0, 3), (0, 4), (0, 5), (0, 47), (0, 48)])

    def test_from_resting_states(self):
        machine = plain(up=4, down=3)
        told = [state_felled(machine, (0, 2), hours) for hours in [1, 2, 3, 4, 48]]
        self.assertEqual(told, [(0, 2), (0, 2), (0, 3), (0, 4), (0, 48)])
        self.assertEqual(state_felled(machine, (0, 0), 1), (0, 1))
        self.assertEqual([state_felled(machine, (0, 59), hours) for hours in [1, 48]], [(0, 59), (0, 59)])

    def test_of_every_state(self):
        for machine in spans():
            for on, due in states_of(machine):
                for hours in [1, 2, 5, 11, 12, 13, 47, 48]:
                    rest = machine.down if on == 1 else due
                    told = state_felled(machine, (on, due), hours)
                    self.assertEqual(told, (0, hours if hours > rest else rest))
                    self.assertIs(is_state(machine, told), True)


if __name__ == "__main__":
    unittest.main()
