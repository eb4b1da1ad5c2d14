import copy
import random
import unittest

from helper import BIG, change_table, slow_path_worth, slow_paths, slow_shows, soon
from stintwise.paths import cheapest_path, path_fault, path_worth, path_worths, shows_path
from stintwise.stores import Store, levels_after

STORE = Store(3, 1, 2, 4, 3)


def stores():
    return [STORE, Store(0, 0, 0, 5, 5), Store(0, 8, 8, 1, 1), Store(2, 1, 1, 1, 1), Store(3, 2, 1, 0, 2),
            Store(2, 8, 8, 2, 0), Store(3, 0, 1, 5, 4), Store(3, 1, 0, 5, 4), Store(2, 0, 0, 3, 3), Store(2, 1, 2, 0, 0)]


def price_rows(hours):
    return [[0] * hours, [1] * hours, [BIG] * hours, [(hour * 5 + 1) % 7 for hour in range(hours)],
            [(hour * 3 + 4) % 5 for hour in range(hours)], [BIG if hour % 2 else 0 for hour in range(hours)]]


def asked(hours=(0, 1, 2, 4)):
    for store in stores():
        for level in range(store.cap + 1):
            for many in hours:
                for prices in price_rows(many):
                    yield store, level, prices


def least_by_turns(store, level, prices):
    """The least worth and its first path, from the last hour to the first, with whole paths kept; of many hours too."""
    best = {place: (0, []) for place in range(store.cap + 1)}
    for price in reversed(prices):
        best = {place: min((slow_path_worth(store, place, [price], [later]) + best[later][0], [later] + best[later][1])
                           for later in best if -store.out <= later - place <= store.into)
                for place in best}
    return best[level]


class Faults(unittest.TestCase):

    def test_none(self):
        self.assertIsNone(path_fault(STORE, 2, []))
        self.assertIsNone(path_fault(STORE, 2, [3, 3, 1, 0, 0, 1]))
        self.assertIsNone(path_fault(STORE, 0, [0] * 48))
        self.assertIsNone(path_fault(STORE, 1, [2, 3, 1] * 16))

    def test_at_the_first_a_middle_and_the_last_hour(self):
        self.assertEqual(path_fault(STORE, 0, [2, 1, 1]), 0)
        self.assertEqual(path_fault(STORE, 3, [0, 1, 1]), 0)
        self.assertEqual(path_fault(STORE, 0, [1, 3, 3]), 1)
        self.assertEqual(path_fault(STORE, 2, [3, 0, 3]), 1)
        self.assertEqual(path_fault(STORE, 2, [3, 2, 1, 3]), 3)
        self.assertEqual(path_fault(STORE, 1, [2, 3, 1] * 15 + [2, 3, 0]), 47)
        self.assertEqual(path_fault(STORE, 1, [2, 3, 1] * 8 + [0, 2, 2] + [2, 3, 1] * 7), 25)

    def test_levels_that_cannot_be(self):
        for level in [-1, -2, 4, 5, -BIG, BIG, 10 ** 69, -10 ** 69]:
            for hour in range(3):
                path = [2, 2, 2]
                path[hour] = level
                self.assertEqual(path_fault(STORE, 2, path), hour)
        self.assertEqual(path_fault(STORE, 0, [-1]), 0)
        self.assertEqual(path_fault(STORE, 3, [4]), 0)
        self.assertEqual(path_fault(Store(0, 8, 8, 1, 1), 0, [0, 1]), 1)

    def test_against_all_paths(self):
        for store in stores():
            for level in range(store.cap + 1):
                good = slow_paths(store, level, 3)
                for path in slow_paths(Store(4, 8, 8, 0, 0), 0, 3):
                    # The same with 1 less each, so that levels below 0 are asked for too.
                    lower = [later - 1 for later in path]
                    fits = [any(each[:hour + 1] == lower[:hour + 1] for each in good) for hour in range(3)]
                    self.assertEqual(path_fault(store, level, lower), None if all(fits) else fits.index(False))


class Worth(unittest.TestCase):

    def test_by_hand(self):
        self.assertEqual(path_worth(STORE, 1, [10, 100, 1000, 7], [2, 3, 1, 1]), 40 + 400 - 6000)
        self.assertEqual(path_worth(STORE, 1, [5], [0]), -15)
        self.assertEqual(path_worth(STORE, 1, [5], [1]), 0)
        self.assertEqual(path_worth(STORE, 1, [5], [2]), 20)
        self.assertEqual(path_worth(STORE, 1, [], []), 0)

    def test_hour_by_hour(self):
        for store, level, prices in asked((0, 1, 3)):
            for path in slow_paths(store, level, len(prices)):
                told = path_worth(store, level, prices, path)
                self.assertEqual(told, slow_path_worth(store, level, prices, path))

    def test_forty_eight_hours_of_great_numbers(self):
        store = Store(8, 8, 8, BIG, BIG - 1)
        self.assertEqual(path_worth(store, 0, [BIG] * 48, [8, 0] * 24), 24 * 8 * BIG)
        self.assertEqual(path_worth(store, 8, [1, BIG] * 24, [8, 0] + [0, 0] * 23), -8 * (BIG - 1) * BIG)


class Cheapest(unittest.TestCase):

    def test_no_hours(self):
        for store in stores():
            for level in range(store.cap + 1):
                self.assertEqual(cheapest_path(store, level, []), (0, []))
                self.assertEqual(path_worths(store, level, []), [[(level, 0)]])

    def test_by_hand(self):
        self.assertEqual(cheapest_path(STORE, 1, [1, 9]), (4 - 54, [2, 0]))
        self.assertEqual(cheapest_path(STORE, 3, [5, 5]), (-45, [1, 0]))
        self.assertEqual(cheapest_path(STORE, 0, [5, 5]), (0, [0, 0]))
        self.assertEqual(cheapest_path(STORE, 0, [0, 0]), (0, [0, 0]))
        self.assertEqual(cheapest_path(STORE, 3, [0, 0]), (0, [1, 0]))
        self.assertEqual(path_worths(STORE, 1, [1, 9]),
                         [[(1, -50)], [(0, 0), (1, -27), (2, -54)], [(0, 0), (1, 0), (2, 0), (3, 0)]])

    def test_against_all_paths(self):
        for store, level, prices in asked():
            paths = slow_paths(store, level, len(prices))
            worths = [slow_path_worth(store, level, prices, path) for path in paths]
            first = paths[worths.index(min(worths))]
            self.assertEqual(cheapest_path(store, level, prices), (min(worths), first))

    def test_many_paths_of_the_same_worth(self):
        even = Store(2, 1, 1, 1, 1)
        self.assertEqual(cheapest_path(even, 2, [4] * 48), (-8, [1] + [0] * 47))
        self.assertEqual(cheapest_path(even, 0, [4] * 48), (0, [0] * 48))
        free = Store(8, 2, 3, 0, 0)
        self.assertEqual(cheapest_path(free, 8, [4] * 48), (0, [5, 2] + [0] * 46))
        # To give out at the last hour it must have taken in, as late as it may.
        late = Store(2, 1, 2, 0, 1)
        self.assertEqual(cheapest_path(late, 0, [0] * 47 + [1]), (-2, [0] * 45 + [1, 2, 0]))

    def test_forty_eight_hours_answer_soon(self):
        for store in stores() + [Store(8, 8, 8, 4, 3), Store(8, 1, 1, 4, 3), Store(8, 3, 2, 1, 1)]:
            for level in [0, store.cap]:
                for prices in price_rows(48):
                    with soon(20):
                        told = cheapest_path(store, level, prices)
                        table = path_worths(store, level, prices)
                    self.assertEqual(told, least_by_turns(store, level, prices))
                    self.assertEqual(table[0], [(level, told[0])])


class Tables(unittest.TestCase):

    def test_levels_and_worths(self):
        for store, level, prices in asked((1, 3)):
            table = path_worths(store, level, prices)
            self.assertEqual(len(table), len(prices) + 1)
            for hour, entries in enumerate(table):
                self.assertEqual([entry[0] for entry in entries], levels_after(store, level, hour))
                rest = prices[hour:]
                for place, worth in entries:
                    worths = [slow_path_worth(store, place, rest, path) for path in slow_paths(store, place, len(rest))]
                    self.assertEqual(worth, min(worths))
            self.assertEqual(table[0], [(level, cheapest_path(store, level, prices)[0])])
            self.assertEqual({worth for place, worth in table[-1]}, {0})

    def test_kinds(self):
        table = path_worths(STORE, 1, [3, 7, 2])
        self.assertIsInstance(table, list)
        for entries in table:
            self.assertIsInstance(entries, list)
            self.assertTrue(all(isinstance(entry, tuple) and len(entry) == 2 for entry in entries))
        told = cheapest_path(STORE, 1, [3, 7, 2])
        self.assertIsInstance(told, tuple)
        self.assertIsInstance(told[1], list)


def slow_ways(store, level, price):
    """What the next hour may be: tuples (level behind, worth)."""
    for later in range(max(level - store.out, 0), min(level + store.into, store.cap) + 1):
        yield later, slow_path_worth(store, level, [price], [later])


class Papers(unittest.TestCase):

    def test_the_table_of_path_worths(self):
        for store, level, prices in asked():
            table = path_worths(store, level, prices)
            worth = cheapest_path(store, level, prices)[0]
            self.assertIs(shows_path(store, level, prices, table, worth), True)
            for other in [worth + 1, worth - 1, 10 ** 69, -10 ** 69]:
                self.assertIs(shows_path(store, level, prices, table, other), False)
            for less in [1, 10 ** 60]:
                lower = [[(place, number - less) for place, number in entries] for entries in table]
                self.assertIs(shows_path(store, level, prices, lower, worth - less), True)
                self.assertIs(shows_path(store, level, prices, lower, worth), False)
            backwards = [entries[::-1] for entries in table]
            self.assertIs(shows_path(store, level, prices, backwards, worth), True)

    def test_no_hours(self):
        for number in [0, -1, -BIG]:
            self.assertIs(shows_path(STORE, 2, [], [[(2, number)]], number), True)
        for table, number in [([[(2, 1)]], 1), ([[]], 0), ([], 0), ([[(2, 0)], []], 0), ([[(1, 0)]], 0),
                              ([[(2, 0)]], -1), ([[(2, 0), (2, 0)]], 0), ([[(2, 0), (1, 1)]], 0)]:
            self.assertIs(shows_path(STORE, 2, [], table, number), False)
        self.assertIs(shows_path(STORE, 2, [], [[(3, -4), (2, 0)]], 0), True)

    def test_forty_eight_hours(self):
        store = Store(8, 8, 8, 4, 3)
        prices = [(hour * 7 + 3) % 10 for hour in range(48)]
        table = path_worths(store, 4, prices)
        with soon(20):
            self.assertIs(shows_path(store, 4, prices, table, table[0][0][1]), True)
            table[30][8] = (8, table[30][8][1] + 1)
            self.assertIs(shows_path(store, 4, prices, table, table[0][0][1]), False)

    def test_one_thing_wrong(self):
        for store, level, prices in [(STORE, 1, [4, 7, 3, 8]), (Store(2, 1, 1, 1, 1), 0, [3, 3, 1])]:
            table = path_worths(store, level, prices)
            worth = table[0][0][1]
            for wrong, number in self.wrongs(table, worth):
                self.assertIs(shows_path(store, level, prices, wrong, number), False, wrong)
            self.assertIs(shows_path(store, level, prices, table, worth), True)

    def wrongs(self, table, worth):
        """Tables with one thing wrong each, and the number to ask with."""
        yield table + [[]], worth
        yield table + [table[-1]], worth
        yield table[:-1], worth
        yield table[1:], worth
        yield [], worth
        yield [[]] + table[1:], worth
        yield [[(table[0][0][0] + 1, worth)]] + table[1:], worth
        yield [[(table[0][0][0], worth - 1)]] + table[1:], worth
        for hour in range(len(table)):
            for at, entry in enumerate(table[hour]):
                for changed in [[entry, entry], [entry, (entry[0], entry[1] - 1)], [(entry[0], entry[1] - 1), entry],
                                [(entry[0], entry[1] + 1)], []]:
                    wrong = copy.deepcopy(table)
                    wrong[hour][at:at + 1] = changed
                    yield wrong, worth + 1 if hour == 0 and len(changed) == 1 else worth

    def test_levels_that_cannot_be_reached(self):
        store = Store(3, 0, 1, 5, 4)
        table = path_worths(store, 1, [2, 6])
        self.assertEqual(table, [[(1, -24)], [(0, 0), (1, -24)], [(0, 0), (1, 0)]])
        table[1].append((3, -40))
        self.assertIs(shows_path(store, 1, [2, 6], table, -24), False)
        table[2].append((3, -10))
        self.assertIs(shows_path(store, 1, [2, 6], table, -24), False)
        table[2].append((2, -15))
        self.assertIs(shows_path(store, 1, [2, 6], table, -24), True)
        table[1][-1] = (3, -39)
        self.assertIs(shows_path(store, 1, [2, 6], table, -24), True)
        table[1][-1] = (3, -38)
        self.assertIs(shows_path(store, 1, [2, 6], table, -24), False)
        table[1][-1] = (3, -39)
        table[2][-1] = (2, 1)
        self.assertIs(shows_path(store, 1, [2, 6], table, -24), False)

    def test_tables_changed_at_random(self):
        chance = random.Random(13)
        told = {True: 0, False: 0}
        for store, level, prices in asked():
            for time in range(12):
                table = path_worths(store, level, prices)
                number = table[0][0][1]
                for change in range(chance.randrange(1, 4)):
                    number = change_table(chance, table, number, range(store.cap + 1))
                right = slow_shows(level, len(prices), table, number,
                                   lambda hour, place: slow_ways(store, place, prices[hour]))
                self.assertIs(shows_path(store, level, prices, table, number), right)
                told[right] += 1
        self.assertGreater(min(told.values()), 300)


class OwnLists(unittest.TestCase):

    def test_told_lists_are_the_askers_own(self):
        prices = [3, 7, 2]
        table = path_worths(STORE, 1, prices)
        kept = copy.deepcopy(table)
        worth, path = cheapest_path(STORE, 1, prices)
        first = list(path)
        for entries in table:
            entries.append("changed")
        path.append("changed")
        self.assertEqual(path_worths(STORE, 1, prices), kept)
        self.assertEqual(cheapest_path(STORE, 1, prices), (worth, first))
        self.assertEqual(path, first + ["changed"])
        self.assertEqual(table, [entries + ["changed"] for entries in kept])

    def test_handed_lists_stay_and_are_looked_at_anew(self):
        prices = [3, 7]
        path = [2, 0]
        table = path_worths(STORE, 1, prices)
        kept = copy.deepcopy(table)
        self.assertIsNone(path_fault(STORE, 1, path))
        self.assertEqual(path_worth(STORE, 1, prices, path), 12 - 42)
        self.assertEqual(cheapest_path(STORE, 1, prices), (-30, [2, 0]))
        self.assertIs(shows_path(STORE, 1, prices, table, -30), True)
        self.assertEqual((prices, path, table), ([3, 7], [2, 0], kept))
        path[0] = 3
        self.assertEqual(path_fault(STORE, 1, path), 0)
        path[0] = 0
        prices[0] = 9
        self.assertIsNone(path_fault(STORE, 1, path))
        self.assertEqual(path_worth(STORE, 1, prices, path), -27)
        self.assertEqual(cheapest_path(STORE, 1, prices), (-27, [0, 0]))
        self.assertIs(shows_path(STORE, 1, prices, table, -30), True)
        prices[1] = 9
        self.assertIs(shows_path(STORE, 1, prices, table, -30), False)
        self.assertEqual((prices, path, table), ([9, 9], [0, 0], kept))


if __name__ == "__main__":
    unittest.main()
