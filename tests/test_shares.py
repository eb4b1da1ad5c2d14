import itertools
import unittest

from helper import BIG, plain, slow_cost, slow_outputs
from stintwise.shares import share_cost, share_out

FEW = plain(least=2, pieces=[(2, 1), (1, 4)])
EVEN = plain(pieces=[(1, 1), (2, 1), (1, 4)])
BARE = plain(least=3)
FREE = plain(least=1, pieces=[(2, 0), (1, 6)])
NOTHING = plain()

GROUPS = [
    [], [FEW], [EVEN], [BARE], [NOTHING], [FEW, EVEN], [EVEN, FEW], [FEW, FEW], [EVEN, EVEN], [FREE, FEW],
    [FEW, BARE, EVEN], [EVEN, FREE, EVEN], [FREE, NOTHING, FREE],
]
SIX = [FEW, EVEN, FEW, FREE, BARE, EVEN]


def units(machines):
    """Each single amount of all pieces as (rate, machine, place), in the order in which they are taken."""
    found = []
    for at, machine in enumerate(machines):
        for place, (amount, rate) in enumerate(machine.pieces):
            found.extend([(rate, at, place)] * amount)
    return sorted(found)


def taken_one_by_one(machines, want, lack):
    outputs = [machine.least for machine in machines]
    for rate, at, place in units(machines):
        if rate <= lack and sum(outputs) < want:
            outputs[at] += 1
    return (outputs, max(0, sum(outputs) - want), max(0, want - sum(outputs)))


def wants_for(machines):
    return range(sum(machine.most() for machine in machines) + 3)


class Sharing(unittest.TestCase):

    def test_by_hand(self):
        one = plain(least=4, pieces=[(3, 2), (2, 7)])
        other = plain(least=1, pieces=[(2, 2), (5, 6)])
        told = [share_out([one, other], want, 90)[0] for want in [0, 5, 6, 8, 9, 10, 11, 15, 16, 17, 99]]
        expected = [[4, 1], [4, 1], [5, 1], [7, 1], [7, 2], [7, 3], [7, 4], [7, 8], [8, 8], [9, 8], [9, 8]]
        self.assertEqual(told, expected)
        self.assertEqual(share_out([one, other], 0, 90), ([4, 1], 5, 0))
        self.assertEqual(share_out([one, other], 4, 90), ([4, 1], 1, 0))
        self.assertEqual(share_out([one, other], 5, 90), ([4, 1], 0, 0))
        self.assertEqual(share_out([one, other], 20, 90), ([9, 8], 0, 3))
        self.assertEqual(share_out([one, other], 20, 6), ([7, 8], 0, 5))
        self.assertEqual(share_out([one, other], 20, 5), ([7, 3], 0, 10))
        self.assertEqual(share_out([one, other], 20, 1), ([4, 1], 0, 15))

    def test_no_machine(self):
        self.assertEqual(share_out([], 0, 7), ([], 0, 0))
        self.assertEqual(share_out([], 12, 7), ([], 0, 12))
        self.assertEqual(share_out([], 10 ** 13, BIG), ([], 0, 10 ** 13))
        self.assertEqual(share_cost([], 0, 7), 0)
        self.assertEqual(share_cost([], 12, 7), 84)
        self.assertEqual(share_cost([], 12, 0), 0)
        self.assertEqual(share_cost([], 10 ** 13, BIG), 10 ** 25)

    def test_each_want_and_lack_one_by_one(self):
        for machines in GROUPS + [SIX]:
            for want in wants_for(machines):
                for lack in [0, 1, 2, 3, 4, 5, 6, 7, BIG]:
                    told = share_out(machines, want, lack)
                    self.assertEqual(told, taken_one_by_one(machines, want, lack), (want, lack))
                    self.assertIs(type(told), tuple)
                    self.assertIs(type(told[0]), list)

    def test_equal_rates_go_by_machine_and_the_same_one_may_stand_twice(self):
        self.assertEqual(share_out([EVEN, FEW, EVEN], 6, 9)[0], [3, 3, 0])
        self.assertEqual(share_out([EVEN, FEW, EVEN], 9, 9)[0], [3, 4, 2])
        self.assertEqual(share_out([EVEN] * 6, 17, 9), ([3, 3, 3, 3, 3, 2], 0, 0))
        self.assertEqual(share_out([EVEN] * 6, 20, 9), ([4, 4, 3, 3, 3, 3], 0, 0))

    def test_great_numbers(self):
        huge = plain(least=BIG, pieces=[(BIG, 0), (BIG, BIG - 1), (BIG, BIG)])
        self.assertEqual(share_out([huge, huge], 10 ** 13, BIG), ([4 * BIG, 4 * BIG], 0, 2 * BIG))
        self.assertEqual(share_cost([huge, huge], 10 ** 13, BIG), 2 * BIG * (BIG - 1) + 4 * BIG * BIG)
        self.assertEqual(share_out([huge, huge], 10 ** 13, BIG - 1), ([3 * BIG, 3 * BIG], 0, 4 * BIG))
        self.assertEqual(share_out([huge] * 6, 10 ** 13, BIG), ([2 * BIG] * 4 + [BIG] * 2, 0, 0))
        self.assertEqual(share_out([huge] * 6, 10 ** 13, 0), ([2 * BIG] * 4 + [BIG] * 2, 0, 0))
        self.assertEqual(share_cost([huge] * 6, 10 ** 13, 0), 0)
        self.assertEqual(share_out([huge] * 6, 1, BIG), ([BIG] * 6, 6 * BIG - 1, 0))
        least = plain(least=BIG)
        self.assertEqual(share_out([least] * 6, 0, BIG), ([BIG] * 6, 6 * BIG, 0))
        self.assertEqual(share_cost([least] * 6, 0, BIG), 0)


class Costs(unittest.TestCase):

    def test_none_costs_less(self):
        for machines in GROUPS:
            choices = [list(choice) for choice in itertools.product(*[slow_outputs(each) for each in machines])]
            making = [sum(slow_cost(*pair) for pair in zip(machines, choice)) for choice in choices]
            for want in wants_for(machines):
                for lack in [0, 1, 2, 3, 4, 5, 7]:
                    costs = [made + lack * max(0, want - sum(choice)) for made, choice in zip(making, choices)]
                    told = share_out(machines, want, lack)[0]
                    self.assertEqual(share_cost(machines, want, lack), min(costs), (want, lack))
                    self.assertEqual(costs[choices.index(told)], min(costs), (want, lack))

    def test_six_machines_by_single_amounts(self):
        leasts = sum(machine.least for machine in SIX)
        for lack in [0, 1, 3, 4, 5, 6, 7, BIG]:
            rates = [min(rate, lack) for rate, at, place in units(SIX)]
            for want in wants_for(SIX):
                over = max(0, want - leasts)
                expected = sum(rates[:over]) + lack * max(0, over - len(rates))
                self.assertEqual(share_cost(SIX, want, lack), expected)


class OwnLists(unittest.TestCase):

    def test_the_machines_stay_and_told_lists_are_the_askers_own(self):
        machines = [FEW, EVEN, FEW]
        told = share_out(machines, 7, 9)
        self.assertEqual(machines, [FEW, EVEN, FEW])
        self.assertEqual([FEW.least, FEW.pieces, EVEN.pieces], [2, [(2, 1), (1, 4)], [(1, 1), (2, 1), (1, 4)]])
        kept = (list(told[0]), told[1], told[2])
        told[0][0] = "changed"
        told[0].append("changed")
        self.assertEqual(share_out(machines, 7, 9), kept)
        machines.pop()
        self.assertEqual(share_out(machines, 7, 9), taken_one_by_one([FEW, EVEN], 7, 9))
        self.assertEqual(told[0][0], "changed")
        empty = share_out([], 7, 9)
        empty[0].append("changed")
        self.assertEqual(share_out([], 7, 9), ([], 0, 7))


if __name__ == "__main__":
    unittest.main()
