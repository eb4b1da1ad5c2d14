import copy
import random
import unittest

from helper import BIG, change_table, good_runs, plain, slow_gain, slow_run_worth, slow_shows, soon, states_of
from stintwise.alone import cheapest_run, run_worths
from stintwise.machines import Machine
from stintwise.runpapers import shows_run

MACHINE = Machine(2, 3, 5, 1, 2, 4, [(3, 2), (2, 7)])
EASY = Machine(1, 1, 1, 1, 1, 1, [])


def slow_ways(machine, state, price):
    """What the next hour may be: a list of tuples (state behind, worth), by the words of the document."""
    on, due = state
    ways = []
    if on == 1 or due == 0:
        ways.append(((1, max(due - 1, 0)) if on else (1, machine.up - 1),
                     machine.run + (0 if on else machine.begin) - slow_gain(machine, price)))
    if on == 0 or due == 0:
        ways.append(((0, machine.down - 1) if on else (0, max(due - 1, 0)), machine.rest))
    return ways


def asked():
    """Tuples of what run_worths is asked with."""
    for machine in [MACHINE, EASY, plain(), Machine(3, 2, 6, 1, 0, 0, [(4, 3)]), Machine(1, 4, 0, 3, 7, 2, [(1, 4)])]:
        for state in states_of(machine, 4):
            for prices in [[], [4], [0, 7, 3], [7, 7, 2, 8], [BIG, 0, BIG]]:
                yield machine, state, prices


class Right(unittest.TestCase):

    def test_the_table_of_run_worths(self):
        for machine, state, prices in asked():
            table = run_worths(machine, state, prices)
            worth = cheapest_run(machine, state, prices)[0]
            self.assertIs(shows_run(machine, state, prices, table, worth), True)
            for other in [worth + 1, worth - 1, 0 if worth else 1, -10 ** 69, 10 ** 69]:
                self.assertIs(shows_run(machine, state, prices, table, other), False)

    def test_forty_eight_hours(self):
        for state in [(0, 0), (1, 1), (0, 59)]:
            prices = [(hour * 7 + 3) % 10 for hour in range(48)]
            table = run_worths(MACHINE, state, prices)
            worth = cheapest_run(MACHINE, state, prices)[0]
            with soon(20):
                self.assertIs(shows_run(MACHINE, state, prices, table, worth), True)
                table[30][0] = (table[30][0][0], table[30][0][1] + 1)
                self.assertIs(shows_run(MACHINE, state, prices, table, worth), False)

    def test_numbers_that_are_less_all_along(self):
        for machine, state, prices in asked():
            worth = cheapest_run(machine, state, prices)[0]
            for less in [1, 7, 10 ** 60]:
                table = [[(place, number - less) for place, number in entries]
                         for entries in run_worths(machine, state, prices)]
                self.assertIs(shows_run(machine, state, prices, table, worth - less), True)
                self.assertIs(shows_run(machine, state, prices, table, worth), False)

    def test_numbers_that_rise_from_hour_to_hour(self):
        for machine, state, prices in asked():
            worths = run_worths(machine, state, prices)
            table = [[(place, number - (len(prices) - hour)) for place, number in entries]
                     for hour, entries in enumerate(worths)]
            self.assertIs(shows_run(machine, state, prices, table, worths[0][0][1] - len(prices)), True)

    def test_entries_in_any_order(self):
        prices = [4, 7, 3, 8]
        table = [entries[::-1] for entries in run_worths(MACHINE, (0, 0), prices)]
        self.assertIs(shows_run(MACHINE, (0, 0), prices, table, cheapest_run(MACHINE, (0, 0), prices)[0]), True)

    def test_no_hours(self):
        for number in [0, -1, -BIG]:
            self.assertIs(shows_run(MACHINE, (0, 3), [], [[((0, 3), number)]], number), True)
        for table, number in [([[((0, 3), 1)]], 1), ([[]], 0), ([], 0), ([[((0, 3), 0)], []], 0),
                              ([[((0, 2), 0)]], 0), ([[((0, 3), 0)]], -1), ([[((0, 3), -1)]], 0),
                              ([[((0, 3), 0), ((0, 3), 0)]], 0), ([[((0, 3), 0), ((1, 0), 1)]], 0)]:
            self.assertIs(shows_run(MACHINE, (0, 3), [], table, number), False)
        self.assertIs(shows_run(MACHINE, (0, 3), [], [[((1, 0), -4), ((0, 3), 0)]], 0), True)


class OneThingWrong(unittest.TestCase):

    def setUp(self):
        self.prices = [4, 7, 3, 8]
        self.table = run_worths(MACHINE, (0, 0), self.prices)
        self.worth = self.table[0][0][1]

    def shows(self, table, number=None):
        return shows_run(MACHINE, (0, 0), self.prices, table, self.worth if number is None else number)

    def test_a_list_too_many_or_too_few(self):
        self.assertIs(self.shows(self.table), True)
        self.assertIs(self.shows(self.table + [[]]), False)
        self.assertIs(self.shows(self.table + [self.table[-1]]), False)
        self.assertIs(self.shows(self.table[:-1]), False)
        self.assertIs(self.shows(self.table[1:]), False)
        self.assertIs(self.shows(self.table[:1] + self.table), False)
        self.assertIs(self.shows([]), False)
        self.assertIs(self.shows([[] for entries in self.table]), False)
        # A list less that would hold for fewer hours doesn't hold for these.
        idle = plain()
        for many in range(7):
            self.assertIs(shows_run(idle, (0, 0), [3] * 4, [[((0, 0), 0), ((1, 0), 0)]] * many, 0), many == 5)

    def test_a_state_twice(self):
        for hour in range(5):
            for entry in self.table[hour]:
                for less in [0, 1]:
                    table = copy.deepcopy(self.table)
                    table[hour].append((entry[0], entry[1] - less))
                    self.assertIs(self.shows(table), False)
                    table[hour].insert(0, table[hour].pop())
                    self.assertIs(self.shows(table), False)

    def test_the_first_list(self):
        for first in [[], [((0, 1), self.worth)], [((1, 0), self.worth)], [((0, 0), self.worth - 1)],
                      [((0, 0), self.worth + 1)], [((0, 1), self.worth), ((0, 0), self.worth - 1)]]:
            self.assertIs(self.shows([first] + self.table[1:]), False, first)
        # With another number as with the one asked for, and that one too great.
        self.assertIs(self.shows([[((0, 0), self.worth + 1)]] + self.table[1:], self.worth + 1), False)
        self.assertIs(self.shows([[((0, 0), self.worth - 1)]] + self.table[1:], self.worth - 1), True)

    def test_a_number_one_too_great(self):
        for hour in range(5):
            for at, entry in enumerate(self.table[hour]):
                table = copy.deepcopy(self.table)
                table[hour][at] = (entry[0], entry[1] + 1)
                number = self.worth + 1 if hour == 0 else self.worth
                self.assertIs(self.shows(table, number), False, (hour, entry))

    def test_the_last_list(self):
        for at, entry in enumerate(self.table[4]):
            for number in [1, BIG]:
                table = copy.deepcopy(self.table)
                table[4][at] = (entry[0], number)
                self.assertIs(self.shows(table), False)
        # Above 0 is wrong there even where nothing leads there.
        self.assertIs(self.shows(self.table[:4] + [self.table[4] + [((0, 40), 1)]]), False)
        self.assertIs(self.shows(self.table[:4] + [self.table[4] + [((0, 40), 0)]]), True)

    def test_a_state_behind_is_missing(self):
        for hour in range(1, 5):
            for at in range(len(self.table[hour])):
                table = copy.deepcopy(self.table)
                table[hour].pop(at)
                self.assertIs(self.shows(table), False, (hour, at))

    def test_states_that_cannot_be_reached(self):
        # From (0, 9) it rests; (0, 8) is no place of the next list.
        table = copy.deepcopy(self.table)
        table[1].append(((0, 9), -100))
        self.assertIs(self.shows(table), False)
        table[2].append(((0, 8), -100))
        self.assertIs(self.shows(table), False)
        table[3].append(((0, 7), -100))
        self.assertIs(self.shows(table), False)
        table[4].append(((0, 6), -100))
        self.assertIs(self.shows(table), True)
        # The hours there cost 2 each.
        table[3][-1] = ((0, 7), -98)
        self.assertIs(self.shows(table), True)
        table[3][-1] = ((0, 7), -97)
        self.assertIs(self.shows(table), False)
        table[3][-1] = ((0, 7), -98)
        table[1][-1] = ((0, 9), -96)
        self.assertIs(self.shows(table), False)
        table[2][-1] = ((0, 8), -96)
        self.assertIs(self.shows(table), True)
        table[1][-1] = ((0, 9), -94)
        self.assertIs(self.shows(table), True)
        table[1][-1] = ((0, 9), -93)
        self.assertIs(self.shows(table), False)
        # Other states of the first list are held to the same.
        table = copy.deepcopy(self.table)
        table[0].append(((1, 1), -10 ** 60))
        self.assertIs(self.shows(table), False)
        table[1].append(((1, 0), -10 ** 60))
        self.assertIs(self.shows(table), False)


class AgainstTheWords(unittest.TestCase):

    def test_tables_changed_at_random(self):
        chance = random.Random(11)
        told = {True: 0, False: 0}
        for machine, state, prices in asked():
            for time in range(25):
                table = run_worths(machine, state, prices)
                number = table[0][0][1]
                for change in range(chance.randrange(1, 4)):
                    number = change_table(chance, table, number, states_of(machine, 8))
                right = slow_shows(state, len(prices), table, number,
                                   lambda hour, place: slow_ways(machine, place, prices[hour]))
                self.assertIs(shows_run(machine, state, prices, table, number), right)
                told[right] += 1
        self.assertGreater(min(told.values()), 300)

    def test_what_is_let_by_is_never_above_any_run(self):
        chance = random.Random(12)
        let_by = 0
        for machine in [EASY, Machine(2, 1, 3, 1, 0, 1, [])]:
            places = states_of(machine, 1)
            for time in range(20000):
                prices = [chance.randrange(3), chance.randrange(3)]
                table = [[(place, chance.randrange(-3, 3 - hour)) for place in places if chance.randrange(8)]
                         for hour in range(3)]
                for state, number in table[0]:
                    if shows_run(machine, state, prices, table, number):
                        let_by += 1
                        worths = [slow_run_worth(machine, state, prices, run) for run in good_runs(machine, state, 2)]
                        self.assertLessEqual(number, min(worths))
        self.assertGreater(let_by, 50)


class OwnLists(unittest.TestCase):

    def test_what_is_handed_in_stays_and_is_looked_at_anew(self):
        prices = [4, 7, 3]
        table = run_worths(MACHINE, (0, 1), prices)
        number = table[0][0][1]
        kept = copy.deepcopy(table)
        self.assertIs(shows_run(MACHINE, (0, 1), prices, table, number), True)
        self.assertEqual((table, prices), (kept, [4, 7, 3]))
        gone = table[2].pop()
        self.assertIs(shows_run(MACHINE, (0, 1), prices, table, number), False)
        table[2].insert(0, gone)
        self.assertIs(shows_run(MACHINE, (0, 1), prices, table, number), True)
        prices[2] = 900
        self.assertIs(shows_run(MACHINE, (0, 1), prices, table, number), False)


if __name__ == "__main__":
    unittest.main()
