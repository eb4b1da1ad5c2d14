import unittest

from helper import BIG, NO_WHOLES, plain, slow_cost, slow_outputs
from stintwise.errors import Wrong
from stintwise.machines import Machine

FIELDS = ["up", "down", "begin", "run", "rest", "least", "pieces"]
GOOD = [2, 3, 5, 1, 0, 4, [(3, 2), (2, 7)]]
SPAN_FAULTS = NO_WHOLES + [0, -1, 13, 14, BIG, 10 ** 69, -10 ** 69]
AMOUNT_FAULTS = NO_WHOLES + [-1, -BIG, BIG + 1, 10 ** 69, -10 ** 69]
PIECES_FAULTS = [
    True, False, None, 0, 1, "", "ab", (), ((3, 2),), {}, {(3, 2): 1}, 1.5, object(),
    [(1, 0)] * 5, [(1, 0), (1, 1), (1, 2), (1, 3), (1, 4)], [(1, 1)] * 100,
    [[3, 2]], [None], [3], ["32"], [{3: 2, 4: 1}], [True], [(3, 2), [3, 2]], [(3, 2), None],
    [()], [(3,)], [(3, 2, 1)], [(3, 2), (3,)], [(3, 2), (3, 2, 1)],
    [(0, 2)], [(-1, 2)], [(BIG + 1, 2)], [(3, 2), (0, 2)], [(3, 2), (3, 2), (3, 2), (0, 2)],
    [(True, 2)], [("3", 2)], [(None, 2)], [(3.0, 2)], [((3,), 2)], [([3], 2)],
    [(3, -1)], [(3, BIG + 1)], [(3, True)], [(3, False)], [(3, "2")], [(3, None)], [(3, 2.0)], [(3, [2])],
    [(1, 1), (1, 0)], [(1, 5), (1, 4), (1, 5), (1, 6)], [(1, 4), (1, 5), (1, 4), (1, 6)],
    [(1, 4), (1, 5), (1, 6), (1, 5)], [(1, 0), (1, BIG), (1, BIG - 1)],
]


def fields_of(machine):
    return [machine.up, machine.down, machine.begin, machine.run, machine.rest, machine.least, machine.pieces]


def faults_at(place):
    return PIECES_FAULTS if place == 6 else SPAN_FAULTS if place < 2 else AMOUNT_FAULTS


def small_machines():
    return [
        plain(),
        plain(least=3),
        plain(pieces=[(4, 0)]),
        plain(least=2, pieces=[(3, 2)]),
        plain(least=4, pieces=[(3, 2), (2, 7)]),
        plain(least=1, pieces=[(1, 0), (2, 3), (1, 3), (3, 4)]),
        plain(pieces=[(2, 5), (2, 5), (2, 5), (2, 5)]),
        plain(least=5, pieces=[(1, 1), (1, 2), (1, 4), (1, 8)]),
    ]


class Making(unittest.TestCase):

    def test_fields_are_what_was_handed_in(self):
        self.assertEqual(fields_of(Machine(*GOOD)), GOOD)
        self.assertEqual(fields_of(Machine(3, 4, 10, 20, 30, 40, [(50, 60)])), [3, 4, 10, 20, 30, 40, [(50, 60)]])

    def test_good_values_at_their_bounds(self):
        for place in range(6):
            for value in ([1, 2, 11, 12] if place < 2 else [0, 1, BIG - 1, BIG]):
                values = GOOD[:place] + [value] + GOOD[place + 1:]
                self.assertEqual(fields_of(Machine(*values)), values)
        for pieces in [[], [(1, 0)], [(BIG, BIG)], [(1, 0), (1, 0)], [(3, 5), (2, 5), (1, 5), (4, 5)],
                       [(1, 0), (1, 1), (1, 2), (1, 3)], [(BIG, BIG)] * 4, [(5, 0), (1, BIG)]]:
            values = GOOD[:6] + [pieces]
            self.assertEqual(fields_of(Machine(*values)), values)
        lowest = [1, 1, 0, 0, 0, 0, []]
        self.assertEqual(fields_of(Machine(*lowest)), lowest)
        highest = [12, 12, BIG, BIG, BIG, BIG, [(BIG, BIG)] * 4]
        self.assertEqual(fields_of(Machine(*highest)), highest)

    def refused_at(self, values):
        with self.assertRaises(Wrong, msg=values) as taken:
            Machine(*values)
        return taken.exception.at

    def test_each_value_wrong_in_each_way(self):
        for place in range(7):
            for fault in faults_at(place):
                values = GOOD[:place] + [fault] + GOOD[place + 1:]
                self.assertEqual(self.refused_at(values), place, values)

    def test_two_wrong_at_once(self):
        for first in range(7):
            for second in range(first + 1, 7):
                for one in [faults_at(first)[2], faults_at(first)[-1]]:
                    for other in [faults_at(second)[2], faults_at(second)[-1]]:
                        values = list(GOOD)
                        values[first] = one
                        values[second] = other
                        self.assertEqual(self.refused_at(values), first, values)
        self.assertEqual(self.refused_at([None] * 7), 0)
        self.assertEqual(self.refused_at([1, None, None, -1, None, None, None]), 1)

    def test_what_was_refused_is_taken_as_soon_as_it_is_right(self):
        pieces = [(3, 2), (2, 1)]
        self.assertEqual(self.refused_at(GOOD[:6] + [pieces]), 6)
        self.assertEqual(pieces, [(3, 2), (2, 1)])
        pieces[1] = (2, 2)
        self.assertEqual(Machine(*GOOD[:6], pieces).pieces, [(3, 2), (2, 2)])


class OwnLists(unittest.TestCase):

    def test_the_handed_list_stays_and_may_be_changed(self):
        pieces = [(3, 2), (2, 7)]
        machine = Machine(2, 3, 5, 1, 0, 4, pieces)
        other = Machine(2, 3, 5, 1, 0, 4, pieces)
        asked = (machine.most(), machine.cost_at(9), machine.gain(8), machine.best_at(7))
        self.assertEqual(pieces, [(3, 2), (2, 7)])
        pieces[0] = (100, 0)
        pieces.append("no piece")
        self.assertEqual(machine.pieces, [(3, 2), (2, 7)])
        self.assertEqual((machine.most(), machine.cost_at(9), machine.gain(8), machine.best_at(7)), asked)
        self.assertEqual(other.pieces, [(3, 2), (2, 7)])
        self.assertIsNot(machine.pieces, other.pieces)

    def test_asking_changes_nothing(self):
        machine = Machine(*GOOD)
        for number in range(-3, 15):
            machine.most()
            machine.cost_at(number)
            machine.gain(abs(number))
            machine.best_at(abs(number))
        self.assertEqual(fields_of(machine), [2, 3, 5, 1, 0, 4, [(3, 2), (2, 7)]])
        self.assertEqual(sorted(vars(machine)), sorted(FIELDS))


class Costs(unittest.TestCase):

    def test_most(self):
        self.assertEqual(Machine(*GOOD).most(), 9)
        self.assertEqual(plain().most(), 0)
        self.assertEqual(plain(least=BIG).most(), BIG)
        self.assertEqual(plain(least=BIG, pieces=[(BIG, 0)] * 4).most(), 5 * BIG)
        for machine in small_machines():
            self.assertEqual(machine.most(), slow_outputs(machine)[-1])

    def test_cost_at_by_hand(self):
        machine = Machine(2, 3, 5, 1, 0, 4, [(3, 2), (2, 7)])
        told = [machine.cost_at(output) for output in range(3, 11)]
        self.assertEqual(told, [None, 0, 2, 4, 6, 13, 20, None])

    def test_cost_at_of_small_machines(self):
        for machine in small_machines():
            for output in range(-3, machine.most() + 4):
                self.assertEqual(machine.cost_at(output), slow_cost(machine, output))

    def test_cost_at_of_great_numbers(self):
        machine = plain(least=BIG, pieces=[(BIG, 1), (BIG - 1, BIG - 1), (1, BIG), (BIG, BIG)])
        self.assertEqual(machine.cost_at(BIG), 0)
        self.assertEqual(machine.cost_at(BIG + 1), 1)
        self.assertEqual(machine.cost_at(2 * BIG - 1), BIG - 1)
        self.assertEqual(machine.cost_at(2 * BIG), BIG)
        self.assertEqual(machine.cost_at(2 * BIG + 1), 2 * BIG - 1)
        self.assertEqual(machine.cost_at(3 * BIG - 1), BIG + (BIG - 1) ** 2)
        self.assertEqual(machine.cost_at(3 * BIG), 2 * BIG + (BIG - 1) ** 2)
        self.assertEqual(machine.cost_at(4 * BIG), 2 * BIG + (BIG - 1) ** 2 + BIG ** 2)
        for output in [BIG - 1, 0, -1, -BIG, 4 * BIG + 1, 10 ** 69, -10 ** 69]:
            self.assertIsNone(machine.cost_at(output))


class Gains(unittest.TestCase):

    def prices_for(self, machine):
        rates = [rate for amount, rate in machine.pieces]
        beside = [rate + more for rate in rates for more in (-1, 0, 1)]
        return sorted({price for price in beside + [0, 1, BIG - 1, BIG] if price >= 0})

    def test_gain_and_best_at_of_all_outputs(self):
        for machine in small_machines():
            for price in self.prices_for(machine):
                worths = {output: price * output - slow_cost(machine, output) for output in slow_outputs(machine)}
                greatest = max(worths.values())
                self.assertEqual(machine.gain(price), greatest, (machine.pieces, price))
                best = [output for output in worths if worths[output] == greatest]
                told = machine.best_at(price)
                self.assertIsInstance(told, tuple)
                self.assertEqual(len(told), 2)
                self.assertEqual(list(range(told[0], told[1] + 1)), best, (machine.pieces, price))

    def test_by_hand(self):
        machine = Machine(2, 3, 5, 1, 0, 4, [(3, 2), (2, 7)])
        self.assertEqual([machine.gain(price) for price in (0, 1, 2, 3, 7, 8)], [0, 4, 8, 15, 43, 52])
        told = [machine.best_at(price) for price in (0, 1, 2, 3, 6, 7, 8)]
        self.assertEqual(told, [(4, 4), (4, 4), (4, 7), (7, 7), (7, 7), (7, 9), (9, 9)])

    def test_great_numbers(self):
        machine = plain(least=BIG, pieces=[(BIG, 0), (BIG, BIG - 1), (BIG, BIG), (BIG, BIG)])
        self.assertEqual(machine.gain(0), 0)
        self.assertEqual(machine.best_at(0), (BIG, 2 * BIG))
        self.assertEqual(machine.gain(BIG - 1), 2 * BIG * (BIG - 1))
        self.assertEqual(machine.best_at(BIG - 1), (2 * BIG, 3 * BIG))
        self.assertEqual(machine.gain(BIG), 2 * BIG * BIG + BIG)
        self.assertEqual(machine.best_at(BIG), (3 * BIG, 5 * BIG))


if __name__ == "__main__":
    unittest.main()
