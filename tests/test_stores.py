import unittest

from helper import BIG, NO_WHOLES
from stintwise.errors import Wrong
from stintwise.stores import Store, drawn_by, levels_after, levels_from

GOOD = [3, 1, 2, 4, 5]
DEPTH_FAULTS = NO_WHOLES + [-1, 9, 10, -BIG, BIG, 10 ** 69, -10 ** 69]
AMOUNT_FAULTS = NO_WHOLES + [-1, -BIG, BIG + 1, 10 ** 69, -10 ** 69]


def fields_of(store):
    return [store.cap, store.into, store.out, store.takes, store.gives]


def faults_at(place):
    return DEPTH_FAULTS if place < 3 else AMOUNT_FAULTS


def stores():
    """Stores of each cap, with all that may be put in or drawn out in an hour."""
    return [Store(cap, into, out, 2, 1) for cap in range(9) for into in range(9) for out in range(9)]


def stepped(store, levels):
    """All levels from 0 to cap that are at most an hour's way from one of these."""
    return [later for later in range(store.cap + 1)
            if any(level - store.out <= later <= level + store.into for level in levels)]


class Making(unittest.TestCase):

    def test_fields_are_what_was_handed_in(self):
        self.assertEqual(fields_of(Store(*GOOD)), GOOD)
        self.assertEqual(sorted(vars(Store(*GOOD))), ["cap", "gives", "into", "out", "takes"])

    def test_good_values_at_their_bounds(self):
        for place in range(5):
            for value in ([0, 1, 7, 8] if place < 3 else [0, 1, BIG - 1, BIG]):
                values = GOOD[:place] + [value] + GOOD[place + 1:]
                self.assertEqual(fields_of(Store(*values)), values)
        for values in [[0, 0, 0, 0, 0], [8, 8, 8, BIG, BIG], [0, 8, 8, 1, 2]]:
            self.assertEqual(fields_of(Store(*values)), values)

    def refused_at(self, values):
        with self.assertRaises(Wrong, msg=values) as taken:
            Store(*values)
        return taken.exception.at

    def test_each_value_wrong_in_each_way(self):
        for place in range(5):
            for fault in faults_at(place):
                values = GOOD[:place] + [fault] + GOOD[place + 1:]
                self.assertEqual(self.refused_at(values), place, values)

    def test_two_wrong_at_once(self):
        for first in range(5):
            for second in range(first + 1, 5):
                for one in faults_at(first):
                    for other in faults_at(second):
                        values = list(GOOD)
                        values[first] = one
                        values[second] = other
                        self.assertEqual(self.refused_at(values), first, values)
        self.assertEqual(self.refused_at([None] * 5), 0)
        self.assertEqual(self.refused_at([8, 8, 8, BIG, BIG + 1]), 4)

    def test_asking_changes_nothing(self):
        store = Store(*GOOD)
        for level in range(4):
            levels_from(store, level)
            levels_after(store, level, 5)
            drawn_by(store, level, 3 - level)
        self.assertEqual(fields_of(store), GOOD)
        self.assertEqual(sorted(vars(store)), ["cap", "gives", "into", "out", "takes"])


class Levels(unittest.TestCase):

    def test_by_hand(self):
        store = Store(5, 1, 2, 0, 0)
        told = [levels_from(store, level) for level in range(6)]
        self.assertEqual(told, [[0, 1], [0, 1, 2], [0, 1, 2, 3], [1, 2, 3, 4], [2, 3, 4, 5], [3, 4, 5]])
        self.assertEqual(levels_from(Store(5, 0, 2, 0, 0), 3), [1, 2, 3])
        self.assertEqual(levels_from(Store(5, 2, 0, 0, 0), 3), [3, 4, 5])
        self.assertEqual(levels_from(Store(5, 0, 0, 0, 0), 3), [3])
        self.assertEqual(levels_from(Store(2, 8, 8, 0, 0), 1), [0, 1, 2])
        self.assertEqual(levels_from(Store(0, 8, 8, 0, 0), 0), [0])

    def test_levels_from_of_all_stores(self):
        for store in stores():
            for level in range(store.cap + 1):
                self.assertEqual(levels_from(store, level), stepped(store, [level]))

    def test_levels_after_by_hand(self):
        store = Store(8, 1, 2, 0, 0)
        told = [levels_after(store, 5, hours) for hours in range(5)]
        self.assertEqual(told, [[5], [3, 4, 5, 6], [1, 2, 3, 4, 5, 6, 7], list(range(9)), list(range(9))])
        self.assertEqual(levels_after(Store(8, 0, 1, 0, 0), 8, 3), [5, 6, 7, 8])
        self.assertEqual(levels_after(Store(8, 1, 0, 0, 0), 0, 3), [0, 1, 2, 3])
        self.assertEqual(levels_after(Store(8, 0, 0, 0, 0), 4, 48), [4])
        self.assertEqual(levels_after(Store(8, 1, 1, 0, 0), 4, 48), list(range(9)))

    def test_levels_after_hour_by_hour(self):
        for store in stores():
            for level in range(store.cap + 1):
                levels = [level]
                for hours in range(10):
                    self.assertEqual(levels_after(store, level, hours), levels)
                    levels = stepped(store, levels)
                # Each hour more goes a level further at least, or no further at all.
                self.assertEqual(levels_after(store, level, 48), levels)

    def test_kinds_and_own_lists(self):
        store = Store(*GOOD)
        for ask in [lambda: levels_from(store, 2), lambda: levels_after(store, 2, 0), lambda: levels_after(store, 2, 3)]:
            told = ask()
            self.assertIsInstance(told, list)
            kept = list(told)
            told.append("changed")
            self.assertEqual(ask(), kept)
            self.assertEqual(told, kept + ["changed"])


class Drawn(unittest.TestCase):

    def test_by_hand(self):
        store = Store(8, 1, 1, 40, 30)
        self.assertEqual(drawn_by(store, 2, 3), 40)
        self.assertEqual(drawn_by(store, 3, 2), -30)
        self.assertEqual(drawn_by(store, 3, 3), 0)
        self.assertEqual(drawn_by(store, 0, 8), 320)
        self.assertEqual(drawn_by(store, 8, 0), -240)
        self.assertEqual(drawn_by(Store(8, 0, 0, BIG, BIG), 0, 8), 8 * BIG)
        self.assertEqual(drawn_by(Store(8, 0, 0, BIG, BIG - 1), 8, 1), -7 * (BIG - 1))
        self.assertEqual(drawn_by(Store(8, 1, 1, 0, 3), 1, 2), 0)
        self.assertEqual(drawn_by(Store(8, 1, 1, 3, 0), 2, 1), 0)

    def test_level_by_level(self):
        for takes, gives in [(0, 0), (7, 5), (5, 7), (BIG, 1)]:
            store = Store(8, 1, 2, takes, gives)
            for level in range(9):
                for later in range(9):
                    rises = sum(takes for step in range(level, later))
                    falls = sum(gives for step in range(later, level))
                    self.assertEqual(drawn_by(store, level, later), rises - falls)


if __name__ == "__main__":
    unittest.main()
