import copy
import itertools
import random
import unittest

from helper import (BIG, chance_works, change_table, plain, slow_cheapest, slow_hour_cost, slow_later, slow_level_fits,
                    slow_shows, small_works, soon, states_of)
from stintwise.errors import TooMany
from stintwise.machines import Machine
from stintwise.planpapers import shows_plan
from stintwise.stores import Store
from stintwise.whole import least_cost, plan_worths
from stintwise.works import Works

FIRST = Machine(2, 3, 5, 1, 2, 1, [(3, 2)])
SECOND = Machine(1, 1, 3, 2, 0, 0, [(2, 1), (1, 3)])
WORKS = Works([FIRST, SECOND], Store(2, 1, 2, 4, 3), 9)
START = (((0, 0), (1, 0)), 1)
WANTS = [4, 7, 3]


def slow_ways(works, position, want):
    """What the next hour may be: tuples (position behind, cost), by the words of the document."""
    states, level = position
    ahead = tuple(state[0] for state in states)
    for ons in itertools.product((0, 1), repeat=len(states)):
        laters = tuple(slow_later(*each) for each in zip(works.machines, states, ons))
        for later in range(9):
            if None not in laters and slow_level_fits(works, level, later):
                yield (laters, later), slow_hour_cost(works, ahead, level, want, ons, later)


def by_the_words(works, position, wants, table, number):
    """Whether a table shows the number, by the words alone."""
    return slow_shows(position, len(wants), table, number, lambda hour, place: slow_ways(works, place, wants[hour]))


def all_positions(works, due=1):
    """All positions of works, with at most so many hours of rest due."""
    levels = range(works.store.cap + 1) if works.store else [0]
    for states in itertools.product(*[states_of(machine, due) for machine in works.machines]):
        for level in levels:
            yield (states, level)


def asked():
    """Tuples (works, position, wants) with few positions."""
    for works, position in small_works()[:-2]:
        for wants in [[], [6], [0, 9], [7, 2, 5]]:
            yield works, position, wants


class Right(unittest.TestCase):

    def test_the_table_of_plan_worths(self):
        for works, position, wants in asked():
            table = plan_worths(works, position, wants)
            cost = least_cost(works, position, wants)
            self.assertIs(shows_plan(works, position, wants, table, cost), True)
            for other in [cost + 1, cost - 1, -10 ** 69, 10 ** 69]:
                self.assertIs(shows_plan(works, position, wants, table, other), False)

    def test_of_six_machines(self):
        works, position = small_works()[-1]
        wants = [30, 4, 12]
        table = plan_worths(works, position, wants)
        cost = least_cost(works, position, wants)
        with soon(20):
            self.assertIs(shows_plan(works, position, wants, table, cost), True)
            for hour, at in [(1, 0), (2, 300), (3, 575)]:
                place, number = table[hour][at]
                table[hour][at] = (place, number + 1)
                self.assertIs(shows_plan(works, position, wants, table, cost), False)
                table[hour][at] = (place, number)
            self.assertIs(shows_plan(works, position, wants, table, cost), True)

    def test_numbers_that_are_less_all_along(self):
        for works, position, wants in asked():
            cost = least_cost(works, position, wants)
            for less in [1, 10 ** 60]:
                table = [[(place, number - less) for place, number in entries]
                         for entries in plan_worths(works, position, wants)]
                self.assertIs(shows_plan(works, position, wants, table, cost - less), True)
                self.assertIs(shows_plan(works, position, wants, table, cost), False)

    def test_entries_in_any_order(self):
        table = [entries[::-1] for entries in plan_worths(WORKS, START, WANTS)]
        self.assertIs(shows_plan(WORKS, START, WANTS, table, least_cost(WORKS, START, WANTS)), True)

    def test_no_hours(self):
        for works, position in small_works():
            for number in [0, -1, -BIG]:
                self.assertIs(shows_plan(works, position, [], [[(position, number)]], number), True)
            for table, number in [([[(position, 1)]], 1), ([[]], 0), ([], 0), ([[(position, 0)], []], 0),
                                  ([[(position, 0)]], -1), ([[(position, -1)]], 0),
                                  ([[(position, 0), (position, 0)]], 0)]:
                self.assertIs(shows_plan(works, position, [], table, number), False)

    def test_never_refused_for_too_many(self):
        # More than 5,000 positions can be reached behind the last hour alone, and nothing costs anything.
        works = Works([plain(up=3, down=3)] * 4, Store(3, 3, 3, 1, 1), 0)
        start = (((0, 0),) * 4, 0)
        hours = 5
        places = list(all_positions(works, 2))
        self.assertEqual(len(places), 6 ** 4 * 4)
        with self.assertRaises(TooMany):
            least_cost(works, start, [5] * hours)
        with soon(60):
            table = [[(place, 0) for place in places] for hour in range(hours + 1)]
            self.assertIs(shows_plan(works, start, [5] * hours, table, 0), True)
            table[2][-1] = (places[-1], 1)
            self.assertIs(shows_plan(works, start, [5] * hours, table, 0), False)

    def test_forty_eight_hours_by_hand(self):
        machine = plain(up=12, down=12)
        works = Works([machine] * 6, None, 5)
        start = (((0, 59),) * 6, 0)
        # As nothing may begin, each amount lacks.
        wants = [2] * 48
        table = [[((((0, 59 - hour),) * 6, 0), 10 * (48 - hour))] for hour in range(49)]
        self.assertIs(shows_plan(works, start, wants, table, 480), True)
        table[7] = [(table[7][0][0], 411)]
        self.assertIs(shows_plan(works, start, wants, table, 480), False)


class OneThingWrong(unittest.TestCase):

    def wrongs(self, table, number):
        """Tables with one thing wrong each, and the number to ask with."""
        yield table + [[]], number
        yield table + [table[-1]], number
        yield table[:1] + table, number
        yield table[:-1], number
        yield table[1:], number
        yield [], number
        yield [[] for entries in table], number
        yield [[]] + table[1:], number
        yield [[(table[0][0][0], number - 1)]] + table[1:], number
        yield [[(table[0][0][0], number + 1)]] + table[1:], number
        for other in [place for place, cost in table[1] if place != table[0][0][0]]:
            yield [[(other, number)]] + table[1:], number
        for hour in range(len(table)):
            for at, (place, cost) in enumerate(table[hour]):
                for changed in [[(place, cost)] * 2, [(place, cost), (place, cost - 1)],
                                [(place, cost - 1), (place, cost)], [(place, cost + 1)], []]:
                    wrong = copy.deepcopy(table)
                    wrong[hour][at:at + 1] = changed
                    yield wrong, number + 1 if hour == 0 and len(changed) == 1 else number

    def test_each(self):
        cases = [each for each in asked() if each[2]][::2] + [(WORKS, START, WANTS[:2])]
        for works, position, wants in cases:
            table = plan_worths(works, position, wants)
            number = table[0][0][1]
            for wrong, asked_number in self.wrongs(table, number):
                self.assertIs(shows_plan(works, position, wants, wrong, asked_number), False, wrong)
            self.assertIs(shows_plan(works, position, wants, table, number), True)

    def test_a_number_above_0_in_the_last_list_though_nothing_leads_there(self):
        table = plan_worths(WORKS, START, WANTS)
        number = table[0][0][1]
        other = (((0, 40), (0, 0)), 0)
        table[-1].append((other, 1))
        self.assertIs(shows_plan(WORKS, START, WANTS, table, number), False)
        table[-1][-1] = (other, 0)
        self.assertIs(shows_plan(WORKS, START, WANTS, table, number), True)
        table[-1][-1] = (other, -BIG)
        self.assertIs(shows_plan(WORKS, START, WANTS, table, number), True)

    def test_positions_that_cannot_be_reached(self):
        works = Works([FIRST], Store(1, 1, 1, 4, 3), 9)
        start = (((0, 0),), 0)
        table = plan_worths(works, start, [4, 7])
        number = table[0][0][1]
        # From (0, 9) it rests for 2 and all lacks but what the store has; the level may be 0 or 1.
        table[1].append(((((0, 9),), 0), -100))
        self.assertIs(shows_plan(works, start, [4, 7], table, number), False)
        table[2].append(((((0, 8),), 0), -200))
        self.assertIs(shows_plan(works, start, [4, 7], table, number), False)
        table[2].append(((((0, 8),), 1), -300))
        # That hour costs 2 and 7 or 11 lacking at 9 each: 65 and 101.
        table[1][-1] = ((((0, 9),), 0), min(-200 + 65, -300 + 101))
        self.assertIs(shows_plan(works, start, [4, 7], table, number), True)
        table[1][-1] = ((((0, 9),), 0), -198)
        self.assertIs(shows_plan(works, start, [4, 7], table, number), False)
        # Other positions of the first list are held to the same.
        table = plan_worths(works, start, [4, 7])
        table[0].append(((((1, 1),), 1), -10 ** 60))
        self.assertIs(shows_plan(works, start, [4, 7], table, number), False)
        table[1].extend([((((1, 0),), 0), -10 ** 60), ((((1, 0),), 1), -10 ** 60)])
        self.assertIs(shows_plan(works, start, [4, 7], table, number), False)
        table[2].extend([((((0, 2),), 0), 0), ((((0, 2),), 1), 0)])
        self.assertIs(shows_plan(works, start, [4, 7], table, number),
                      by_the_words(works, start, [4, 7], table, number))


class AgainstTheWords(unittest.TestCase):

    def test_tables_changed_at_random(self):
        chance = random.Random(71)
        told = {True: 0, False: 0}
        for time in range(250):
            works, position = chance_works(chance)
            wants = [chance.randrange(8) for hour in range(chance.randrange(4))]
            for again in range(4):
                table = plan_worths(works, position, wants)
                number = table[0][0][1]
                for change in range(chance.randrange(1, 4)):
                    number = change_table(chance, table, number, list(all_positions(works, 4)))
                right = by_the_words(works, position, wants, table, number)
                self.assertIs(shows_plan(works, position, wants, table, number), right)
                told[right] += 1
        self.assertGreater(min(told.values()), 200)

    def test_tables_of_all_positions(self):
        chance = random.Random(72)
        let_by = 0
        for works in [Works([Machine(1, 1, 1, 1, 1, 1, [])], Store(1, 1, 1, 1, 1), 2),
                      Works([Machine(2, 1, 1, 0, 1, 1, []), plain()], None, 1), Works([], Store(2, 1, 1, 1, 2), 1)]:
            places = list(all_positions(works))
            for time in range(600):
                wants = [chance.randrange(3), chance.randrange(3)]
                table = [[(place, chance.randrange(-2, 2 - (hour == 2))) for place in places if chance.randrange(12)]
                         for hour in range(3)]
                for position, number in table[0]:
                    shown = shows_plan(works, position, wants, table, number)
                    self.assertIs(shown, by_the_words(works, position, wants, table, number))
                    if shown:
                        let_by += 1
                        self.assertLessEqual(number, slow_cheapest(works, position, wants)[0])
        self.assertGreater(let_by, 20)


class OwnLists(unittest.TestCase):

    def test_what_is_handed_in_stays_and_is_looked_at_anew(self):
        wants = list(WANTS)
        table = plan_worths(WORKS, START, wants)
        number = table[0][0][1]
        kept = copy.deepcopy(table)
        self.assertIs(shows_plan(WORKS, START, wants, table, number), True)
        self.assertEqual((table, wants), (kept, WANTS))
        gone = table[2].pop()
        self.assertIs(shows_plan(WORKS, START, wants, table, number), False)
        table[2].insert(0, gone)
        self.assertIs(shows_plan(WORKS, START, wants, table, number), True)
        wants[2] = 0
        self.assertIs(shows_plan(WORKS, START, wants, table, number), False)


if __name__ == "__main__":
    unittest.main()
