import itertools
import unittest

from helper import BIG, plain, slow_cost, slow_outputs
from stintwise.margins import margin_price, shows_share
from stintwise.shares import share_cost, share_out

FEW = plain(least=2, pieces=[(2, 1), (1, 4)])
EVEN = plain(pieces=[(1, 1), (2, 1), (1, 4)])
BARE = plain(least=3)
FREE = plain(least=1, pieces=[(2, 0), (1, 6)])

GROUPS = [[], [FEW], [EVEN], [BARE], [FREE], [FEW, EVEN], [FEW, FEW], [FREE, EVEN], [BARE, FREE]]
SIX = [FEW, EVEN, FEW, FREE, BARE, EVEN]


def slow_gain(machine, price):
    return max(price * output - slow_cost(machine, output) for output in slow_outputs(machine))


def bound(machines, want, price):
    return price * want - sum(slow_gain(machine, price) for machine in machines)


def wants_for(machines):
    return range(sum(machine.most() for machine in machines) + 3)


class Prices(unittest.TestCase):

    def test_by_hand(self):
        one = plain(least=4, pieces=[(3, 2), (2, 7)])
        other = plain(least=1, pieces=[(2, 2), (5, 6)])
        told = [margin_price([one, other], want, 90) for want in [0, 1, 5, 6, 10, 11, 15, 16, 17, 18, 99]]
        self.assertEqual(told, [0, 0, 0, 2, 2, 6, 6, 7, 7, 90, 90])
        told = [margin_price([one, other], want, 6) for want in [0, 5, 6, 10, 11, 15, 16, 99]]
        self.assertEqual(told, [0, 0, 2, 2, 6, 6, 6, 6])
        self.assertEqual([margin_price([], want, 7) for want in [0, 1, 10 ** 13]], [0, 7, 7])
        self.assertEqual(margin_price([one, other], 99, 0), 0)

    def test_the_least_of_all_prices_that_come_to_the_cost(self):
        for machines in GROUPS + [SIX]:
            for want in wants_for(machines):
                for lack in [0, 1, 2, 4, 5, 7]:
                    cost = share_cost(machines, want, lack)
                    bounds = [bound(machines, want, price) for price in range(lack + 1)]
                    self.assertEqual(max(bounds), cost, (want, lack))
                    self.assertEqual(margin_price(machines, want, lack), bounds.index(cost), (want, lack))

    def test_the_cost_of_the_last_one_wanted(self):
        for machines in GROUPS + [SIX]:
            for lack in [0, 3, 4, 5, BIG]:
                self.assertEqual(margin_price(machines, 0, lack), 0)
                for want in wants_for(machines)[1:]:
                    more = share_cost(machines, want, lack) - share_cost(machines, want - 1, lack)
                    self.assertEqual(margin_price(machines, want, lack), more)

    def test_great_numbers(self):
        huge = plain(least=BIG, pieces=[(BIG, 0), (BIG, BIG - 1), (BIG, BIG)])
        told = [margin_price([huge], want, BIG) for want in [0, 1, BIG, 2 * BIG, 2 * BIG + 1, 3 * BIG, 3 * BIG + 1]]
        self.assertEqual(told, [0, 0, 0, 0, BIG - 1, BIG - 1, BIG])
        self.assertEqual(margin_price([huge], 10 ** 13, BIG), BIG)
        self.assertEqual(margin_price([huge], 10 ** 13, 5), 5)
        self.assertEqual(margin_price([huge] * 6, 10 ** 13, BIG), 0)


class Shown(unittest.TestCase):

    def test_cheapest_outputs_and_price(self):
        for machines in GROUPS + [SIX]:
            for want in wants_for(machines):
                for lack in [0, 1, 4, 7, BIG]:
                    outputs = share_out(machines, want, lack)[0]
                    price = margin_price(machines, want, lack)
                    self.assertIs(shows_share(machines, want, lack, outputs, price), True, (want, lack))

    def test_all_outputs_and_prices(self):
        for machines in [[], [FEW], [FREE], [FEW, EVEN], [FREE, FREE]]:
            ranges = [range(machine.least - 1, machine.most() + 2) for machine in machines]
            choices = [list(choice) for choice in itertools.product(*ranges)]
            for want in wants_for(machines):
                for lack in [0, 1, 4, 5]:
                    self.check(machines, want, lack, choices)

    def check(self, machines, want, lack, choices):
        least = share_cost(machines, want, lack)
        bounds = {price: bound(machines, want, price) for price in range(lack + 1)}
        for outputs in choices:
            costs = [slow_cost(*pair) for pair in zip(machines, outputs)]
            cheapest = None not in costs and sum(costs) + lack * max(0, want - sum(outputs)) == least
            for price in range(-2, lack + 3):
                shown = cheapest and bounds.get(price) == least
                self.assertIs(shows_share(machines, want, lack, outputs, price), shown, (want, lack, outputs, price))

    def test_each_thing_wrong(self):
        one = plain(least=4, pieces=[(3, 2), (2, 7)])
        other = plain(least=1, pieces=[(2, 2), (5, 6)])
        machines = [one, other]
        self.assertIs(shows_share(machines, 12, 90, [7, 5], 6), True)
        for outputs in [[], [7], [5], [7, 5, 0], [7, 5, 1], [7, 5, 5], [6, 5], [8, 5], [7, 4], [7, 6], [5, 7]]:
            self.assertIs(shows_share(machines, 12, 90, outputs, 6), False, outputs)
        for price in [5, 7, 0, -1, 90, 91, 10 ** 69, -10 ** 69]:
            self.assertIs(shows_share(machines, 12, 90, [7, 5], price), False, price)
        self.assertIs(shows_share(machines, 12, 5, [7, 5], 6), False)
        for outputs in [[3, 1], [4, 0], [3, 2], [-4, 1], [10 ** 69, 1]]:
            self.assertIs(shows_share(machines, 5, 90, outputs, 0), False, outputs)
        self.assertIs(shows_share(machines, 5, 90, [4, 1], 0), True)
        for outputs in [[10, 8], [9, 9], [10, 7], [9, 7]]:
            self.assertIs(shows_share(machines, 20, 90, outputs, 90), False, outputs)
        self.assertIs(shows_share(machines, 20, 90, [9, 8], 90), True)
        self.assertIs(shows_share(machines, 20, 90, [9, 8], 91), False)

    def test_an_output_of_nought_may_not_be_left_out_or_added(self):
        self.assertIs(shows_share([BARE, EVEN], 3, 7, [3, 0], 0), True)
        self.assertIs(shows_share([BARE, EVEN], 3, 7, [3], 0), False)
        self.assertIs(shows_share([BARE, EVEN], 3, 7, [3, 0, 0], 0), False)
        self.assertIs(shows_share([EVEN], 0, 7, [0], 0), True)
        self.assertIs(shows_share([EVEN], 0, 7, [], 0), False)
        self.assertIs(shows_share([EVEN], 0, 7, [0, 0], 0), False)

    def test_no_machine(self):
        self.assertIs(shows_share([], 0, 7, [], 0), True)
        self.assertIs(shows_share([], 0, 7, [], 7), True)
        self.assertIs(shows_share([], 0, 7, [], 8), False)
        self.assertIs(shows_share([], 0, 7, [], -1), False)
        self.assertIs(shows_share([], 0, 7, [0], 0), False)
        self.assertIs(shows_share([], 3, 7, [], 7), True)
        self.assertIs(shows_share([], 3, 7, [], 6), False)

    def test_what_is_handed_in_stays(self):
        machines = [FEW, EVEN]
        outputs = [4, 3]
        self.assertIs(shows_share(machines, 7, 9, outputs, 1), True)
        self.assertEqual(margin_price(machines, 7, 9), 1)
        self.assertEqual((machines, outputs), ([FEW, EVEN], [4, 3]))
        outputs[1] = 2
        self.assertIs(shows_share(machines, 7, 9, outputs, 1), False)
        outputs[1] = 3
        self.assertIs(shows_share(machines, 7, 9, outputs, 1), True)


if __name__ == "__main__":
    unittest.main()
