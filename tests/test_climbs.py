import copy
import random
import unittest

from helper import BIG, chance_works, plain, small_works, soon
from stintwise.bounds import price_bound
from stintwise.climbs import climbed, raised_price
from stintwise.machines import Machine
from stintwise.stores import Store
from stintwise.works import Works

FIRST = Machine(2, 3, 5, 1, 2, 4, [(3, 2), (2, 7)])
SECOND = Machine(1, 1, 3, 2, 0, 0, [(2, 1), (1, 3)])


def put(prices, hour, price):
    """The prices with another one for that hour."""
    return prices[:hour] + [price] + prices[hour + 1:]


def slow_raised(works, position, wants, prices, hour):
    """The least of all prices at which the bound is greatest, and how many are alike."""
    bounds = [price_bound(works, position, wants, put(prices, hour, price)) for price in range(works.lack + 1)]
    return bounds.index(max(bounds)), bounds.count(max(bounds))


def slow_climbed(works, position, wants, prices, rounds):
    """raised_price put hour by hour."""
    still = None
    for time in range(rounds):
        before = list(prices)
        for hour in range(len(prices)):
            prices = put(prices, hour, raised_price(works, position, wants, prices, hour))
        still = prices == before
        if still:
            break
    return prices, price_bound(works, position, wants, prices), still


class Raised(unittest.TestCase):

    def test_by_hand(self):
        # Up to 4 are made at 2 each, whatever the price, and 3 more at 7.
        machine = plain(pieces=[(4, 2), (3, 7)])
        works = Works([machine], None, 20)
        for want, price in [(0, 0), (1, 2), (3, 2), (4, 2), (5, 7), (7, 7), (8, 20), (BIG, 20)]:
            self.assertEqual(raised_price(works, (((0, 0),), 0), [want], [11], 0), price, want)

    def test_without_machines(self):
        works = Works([], None, 7)
        self.assertEqual(raised_price(works, ((), 0), [0, 3], [5, 5], 0), 0)
        self.assertEqual(raised_price(works, ((), 0), [0, 3], [5, 5], 1), 7)
        # The store gives out 3 now or at the other hour, whose price is 5.
        works = Works([], Store(1, 0, 1, 3, 3), 7)
        self.assertEqual(raised_price(works, ((), 1), [2, 3], [4, 5], 0), 5)
        self.assertEqual(raised_price(works, ((), 1), [3, 3], [4, 5], 0), 5)
        self.assertEqual(raised_price(works, ((), 1), [4, 3], [4, 5], 0), 7)
        self.assertEqual(raised_price(works, ((), 1), [0, 3], [4, 5], 0), 0)

    def test_lack_of_nought(self):
        works = Works([FIRST], Store(3, 1, 2, 4, 3), 0)
        for hour in range(3):
            self.assertEqual(raised_price(works, (((0, 0),), 2), [4, BIG, 1], [0, 0, 0], hour), 0)

    def test_the_price_that_the_hour_had_says_nothing(self):
        for works, position in small_works():
            wants = [5, 9, 3]
            for hour in range(3):
                told = {raised_price(works, position, wants, put([1, 0, 3], hour, price), hour)
                        for price in range(works.lack + 1)}
                self.assertEqual(len(told), 1)

    def test_against_all_prices(self):
        chance = random.Random(51)
        seen = {"alike": 0, "nought": 0, "lack": 0, "between": 0}
        cases = [each for each in small_works() if each[0].lack <= 9]
        for works, position in cases + [chance_works(chance, 3) for time in range(400)]:
            hours = chance.randrange(1, 6)
            wants = [chance.choice([0, chance.randrange(12)]) for hour in range(hours)]
            prices = [chance.randrange(works.lack + 1) for hour in range(hours)]
            for hour in range(hours):
                right, alike = slow_raised(works, position, wants, prices, hour)
                self.assertEqual(raised_price(works, position, wants, prices, hour), right)
                seen["alike"] += alike > 1
                seen["nought"] += right == 0
                seen["lack"] += right == works.lack
                seen["between"] += 0 < right < works.lack
        self.assertGreater(min(seen.values()), 40)

    def test_all_prices_alike(self):
        # What is wanted the machine makes anyhow, for nothing: no price makes the bound any greater.
        works = Works([Machine(12, 1, 0, 3, 0, 5, [])], None, 9)
        start = (((1, 11),), 0)
        self.assertEqual(slow_raised(works, start, [5, 5], [4, 6], 0), (0, 10))
        self.assertEqual(raised_price(works, start, [5, 5], [4, 6], 0), 0)
        self.assertEqual(raised_price(works, start, [4, 6], [4, 6], 0), 0)
        self.assertEqual(raised_price(works, start, [4, 6], [4, 6], 1), 9)

    def test_great_numbers_answer_soon(self):
        chance = random.Random(52)
        for time in range(25):
            pieces = [(chance.randrange(1, BIG + 1), rate) for rate in sorted(chance.choices(range(BIG + 1), k=4))]
            machine = Machine(chance.randrange(1, 13), chance.randrange(1, 13), BIG, BIG - 1, 7, BIG // 5, pieces)
            works = Works([machine, SECOND, machine], Store(8, 3, 2, BIG, BIG - 9), chance.choice([BIG, BIG - 1]))
            position = (((0, 0), (1, 0), (1, 0)), 4)
            wants = [chance.randrange(BIG + 1) for hour in range(5)]
            prices = [chance.randrange(works.lack + 1) for hour in range(5)]
            hour = chance.randrange(5)
            with soon(10):
                told = raised_price(works, position, wants, prices, hour)
            self.assertTrue(0 <= told <= works.lack)
            bound = price_bound(works, position, wants, put(prices, hour, told))
            # As the bound bends downward alone, its neighbours say all.
            if told > 0:
                self.assertGreater(bound, price_bound(works, position, wants, put(prices, hour, told - 1)))
            if told < works.lack:
                self.assertGreaterEqual(bound, price_bound(works, position, wants, put(prices, hour, told + 1)))
            for other in [0, works.lack, works.lack // 2] + [chance.randrange(works.lack + 1) for time in range(4)]:
                self.assertLessEqual(price_bound(works, position, wants, put(prices, hour, other)), bound)

    def test_at_the_greatest_rates(self):
        for rate in [BIG, BIG - 1, 1, 0]:
            works = Works([plain(pieces=[(BIG, rate)])], None, BIG)
            self.assertEqual(raised_price(works, (((0, 0),), 0), [BIG], [5], 0), rate)
            self.assertEqual(raised_price(works, (((0, 0),), 0), [1], [5], 0), rate)
        works = Works([plain(pieces=[(BIG - 1, 3)])], None, BIG)
        self.assertEqual(raised_price(works, (((0, 0),), 0), [BIG], [5], 0), BIG)

    def test_forty_eight_hours_answer_soon(self):
        machine = Machine(12, 12, 50, 3, 2, 1, [(1, 1), (2, 3), (1, 6), (1, 6)])
        works = Works([machine] * 6, Store(8, 8, 8, 4, 3), BIG)
        wants = [(hour * 7) % 40 for hour in range(48)]
        prices = [(hour * 5) % 11 for hour in range(48)]
        for hour in [0, 23, 47]:
            with soon(20):
                told = raised_price(works, (((0, 0),) * 6, 4), wants, prices, hour)
            bounds = [price_bound(works, (((0, 0),) * 6, 4), wants, put(prices, hour, price))
                      for price in range(max(told - 1, 0), told + 2)]
            self.assertEqual(max(bounds), bounds[min(told, 1)])


class Climbed(unittest.TestCase):

    def test_no_hours(self):
        for works, position in small_works():
            for rounds in range(1, 9):
                told = climbed(works, position, [], [], rounds)
                self.assertEqual(told, ([], 0, True))
                self.assertIs(told[2], True)

    def test_against_raised_prices(self):
        chance = random.Random(53)
        seen = {}
        for works, position in small_works() + [chance_works(chance, 3) for time in range(60)]:
            hours = chance.randrange(1, 6)
            wants = [chance.randrange(12) for hour in range(hours)]
            prices = [chance.randrange(works.lack + 1) for hour in range(hours)]
            for rounds in range(1, 9):
                told = climbed(works, position, wants, prices, rounds)
                self.assertEqual(told, slow_climbed(works, position, wants, prices, rounds))
                self.assertIsInstance(told, tuple)
                self.assertIsInstance(told[0], list)
                self.assertIsInstance(told[2], bool)
                key = (rounds, told[2])
                seen[key] = seen.get(key, 0) + 1
        self.assertEqual({key for key in seen if key[0] < 4}, {(many, still) for many in (1, 2, 3)
                                                             for still in (True, False)})

    def test_a_round_that_changes_nothing_is_the_last(self):
        chance = random.Random(54)
        for works, position in [chance_works(chance, 3) for time in range(30)]:
            wants = [chance.randrange(12) for hour in range(4)]
            told = climbed(works, position, wants, [0] * 4, 8)
            if told[2]:
                self.assertEqual(climbed(works, position, wants, told[0], 1), told)
                self.assertEqual(climbed(works, position, wants, told[0], 8), told)
                for hour in range(4):
                    self.assertEqual(raised_price(works, position, wants, told[0], hour), told[0][hour])

    def test_still_by_hand(self):
        works = Works([plain(pieces=[(4, 2), (3, 7)])], None, 20)
        start = (((0, 0),), 0)
        self.assertEqual(climbed(works, start, [3, 5, 9], [2, 7, 20], 1), ([2, 7, 20], 6 + 15 + 69, True))
        self.assertEqual(climbed(works, start, [3, 5, 9], [2, 7, 19], 1), ([2, 7, 20], 90, False))
        self.assertEqual(climbed(works, start, [3, 5, 9], [2, 7, 19], 2), ([2, 7, 20], 90, True))
        self.assertEqual(climbed(works, start, [3, 5, 9], [0, 0, 0], 8), ([2, 7, 20], 90, True))

    def test_the_bound_never_falls(self):
        chance = random.Random(55)
        for works, position in small_works():
            wants = [chance.randrange(20) for hour in range(6)]
            prices = [chance.randrange(works.lack + 1) for hour in range(6)]
            bounds = [price_bound(works, position, wants, prices)]
            bounds += [climbed(works, position, wants, prices, rounds)[1] for rounds in range(1, 9)]
            self.assertEqual(bounds, sorted(bounds))

    def test_twenty_four_hours_answer(self):
        machine = Machine(12, 12, 50, 3, 2, 1, [(1, 1), (2, 3), (1, 6), (1, 6)])
        other = Machine(3, 2, BIG, BIG, BIG, BIG, [(BIG, BIG - 1)])
        wants = [(hour * 7) % 40 for hour in range(24)]
        for machines, lack in [([machine] * 6, 30), ([machine, other] * 3, BIG)]:
            works = Works(machines, Store(8, 3, 2, 4, 3), lack)
            position = (((0, 0),) * 6, 4)
            with soon(40):
                prices, bound, still = climbed(works, position, wants, [0] * 24, 8)
            self.assertEqual(bound, price_bound(works, position, wants, prices))
            self.assertEqual(climbed(works, position, wants, [0] * 24, 1),
                             slow_climbed(works, position, wants, [0] * 24, 1))

    def test_the_handed_lists_stay_and_told_ones_may_be_changed(self):
        works = Works([FIRST, SECOND], Store(3, 1, 2, 4, 3), 9)
        start = (((0, 0), (1, 0)), 1)
        wants, prices = [5, 6, 7], [9, 0, 4]
        first = raised_price(works, start, wants, prices, 1)
        told = climbed(works, start, wants, prices, 3)
        self.assertEqual((wants, prices), ([5, 6, 7], [9, 0, 4]))
        kept = copy.deepcopy(told)
        told[0][0] = "changed"
        told[0].append("changed")
        self.assertEqual(climbed(works, start, wants, prices, 3), kept)
        self.assertEqual(raised_price(works, start, wants, prices, 1), first)
        # Also where no price became another one, what is told is a list of its own.
        still = list(climbed(works, start, wants, prices, 8)[0])
        again = climbed(works, start, wants, still, 8)
        self.assertIsNot(again[0], still)
        nothing = []
        self.assertIsNot(climbed(works, start, [], nothing, 1)[0], nothing)
        prices[0] = 0
        wants[1] = 30
        self.assertEqual(raised_price(works, start, wants, prices, 1),
                         slow_raised(works, start, [5, 30, 7], [0, 0, 4], 1)[0])


if __name__ == "__main__":
    unittest.main()
