import unittest

from helper import BIG, NO_WHOLES, plain, small_works, states_of
from stintwise.errors import Wrong
from stintwise.machines import Machine
from stintwise.stores import Store
from stintwise.works import Works, is_position

FIRST = Machine(2, 3, 5, 1, 0, 4, [(3, 2), (2, 7)])
SECOND = plain(up=12, down=12)
STORE = Store(3, 1, 2, 4, 3)
MACHINES_FAULTS = [
    True, False, None, 0, 1, "", "ab", (), (FIRST,), {}, {0: FIRST}, 1.5, object(), FIRST, STORE,
    [FIRST] * 7, [FIRST] * 8, [FIRST, SECOND] * 50, [None], [0], ["machine"], [[]], [[FIRST]], [(FIRST,)], [STORE],
    [Machine], [FIRST, None], [FIRST, SECOND, STORE], [FIRST] * 5 + [1], [None] * 7,
    [Works([], None, 0)],
]
STORE_FAULTS = [True, False, 0, 1, "", "none", (), [], {}, [STORE], (STORE,), [None], FIRST, Store, object(), 1.5]
LACK_FAULTS = NO_WHOLES + [-1, -BIG, BIG + 1, 10 ** 69, -10 ** 69, FIRST, STORE]


class Making(unittest.TestCase):

    def test_fields(self):
        for machines in [[], [FIRST], [FIRST, SECOND], [SECOND, FIRST, FIRST], [FIRST] * 6, [FIRST, SECOND] * 3]:
            for store in [None, STORE, Store(0, 0, 0, 0, 0)]:
                for lack in [0, 1, 90, BIG - 1, BIG]:
                    works = Works(machines, store, lack)
                    self.assertIsInstance(works.machines, list)
                    self.assertEqual(len(works.machines), len(machines))
                    self.assertTrue(all(one is other for one, other in zip(works.machines, machines)))
                    self.assertIsNot(works.machines, machines)
                    self.assertIs(works.store, store)
                    self.assertEqual(works.lack, lack)
                    self.assertEqual(sorted(vars(works)), ["lack", "machines", "store"])

    def refused_at(self, *values):
        with self.assertRaises(Wrong, msg=values) as taken:
            Works(*values)
        return taken.exception.at

    def test_each_value_wrong_in_each_way(self):
        for store in [None, STORE]:
            for fault in MACHINES_FAULTS:
                self.assertEqual(self.refused_at(fault, store, 90), 0, fault)
            for fault in LACK_FAULTS:
                self.assertEqual(self.refused_at([FIRST], store, fault), 2, fault)
        for machines in [[], [FIRST]]:
            for fault in STORE_FAULTS:
                self.assertEqual(self.refused_at(machines, fault, 90), 1, fault)

    def test_several_wrong_at_once(self):
        for machines in MACHINES_FAULTS:
            for store in STORE_FAULTS:
                self.assertEqual(self.refused_at(machines, store, 90), 0)
                self.assertEqual(self.refused_at(machines, store, -1), 0)
            self.assertEqual(self.refused_at(machines, STORE, -1), 0)
        for store in STORE_FAULTS:
            for lack in LACK_FAULTS:
                self.assertEqual(self.refused_at([FIRST], store, lack), 1)

    def test_the_handed_list_stays_and_may_be_changed(self):
        machines = [FIRST, SECOND]
        works = Works(machines, STORE, 9)
        other = Works(machines, STORE, 9)
        self.assertEqual(len(machines), 2)
        machines.pop()
        machines.append("no machine")
        machines.append(FIRST)
        for each in [works, other]:
            self.assertEqual(len(each.machines), 2)
            self.assertIs(each.machines[0], FIRST)
            self.assertIs(each.machines[1], SECOND)
            self.assertIs(is_position(each, (((0, 0), (1, 11)), 3)), True)
        self.assertIsNot(works.machines, other.machines)

    def test_what_was_refused_is_taken_as_soon_as_it_is_right(self):
        machines = [FIRST] * 7
        self.assertEqual(self.refused_at(machines, None, 9), 0)
        self.assertEqual(len(machines), 7)
        machines.pop()
        self.assertEqual(len(Works(machines, None, 9).machines), 6)


class Positions(unittest.TestCase):

    def test_all_states_and_levels(self):
        for store in [None, STORE, Store(0, 1, 1, 1, 1), Store(8, 0, 0, 0, 0)]:
            works = Works([FIRST], store, 9)
            cap = 0 if store is None else store.cap
            for state in states_of(FIRST):
                for level in range(-3, 13):
                    self.assertIs(is_position(works, ((state,), level)), 0 <= level <= cap)
            for state in [(0, 60), (0, -1), (1, 2), (1, -1), (2, 0), (-1, 0), (0,), (0, 0, 0), [0, 0], (True, 0),
                          (0, False), (0, None), None, 0, "ab", ("0", 0), (0, 1.0), ((0, 0), 0), ()]:
                self.assertIs(is_position(works, ((state,), 0)), False, state)

    def test_each_machine_has_its_own_states(self):
        works = Works([FIRST, SECOND, FIRST], STORE, 9)
        for states, right in [(((0, 0), (0, 0), (0, 0)), True), (((1, 1), (1, 11), (1, 1)), True),
                              (((0, 59), (0, 59), (0, 59)), True), (((1, 1), (1, 12), (1, 1)), False),
                              (((1, 2), (1, 1), (1, 1)), False), (((1, 1), (1, 1), (1, 2)), False),
                              (((0, 60), (1, 1), (1, 1)), False), (((1, 1), (1, 1), (0, 60)), False)]:
            self.assertIs(is_position(works, (states, 2)), right, states)

    def test_too_few_and_too_many_states(self):
        for many in range(7):
            works = Works([FIRST] * many, STORE, 9)
            for states in range(9):
                self.assertIs(is_position(works, (((0, 0),) * states, 0)), states == many)

    def test_no_machines(self):
        self.assertIs(is_position(Works([], None, 9), ((), 0)), True)
        self.assertIs(is_position(Works([], STORE, 9), ((), 3)), True)
        self.assertIs(is_position(Works([], STORE, 9), ((), 4)), False)
        self.assertIs(is_position(Works([], None, 9), ((), 1)), False)
        self.assertIs(is_position(Works([], None, 9), ([], 0)), False)
        self.assertIs(is_position(Works([], None, 9), (None, 0)), False)
        self.assertIs(is_position(Works([], None, 9), ("", 0)), False)

    def test_levels_of_other_kinds(self):
        for store in [None, STORE]:
            works = Works([FIRST], store, 9)
            self.assertIs(is_position(works, (((0, 0),), 0)), True)
            for level in NO_WHOLES + [-1, 4, BIG, -BIG, 10 ** 69]:
                self.assertIs(is_position(works, (((0, 0),), level)), False, level)

    def test_things_of_other_kinds(self):
        for works in [Works([FIRST, FIRST], STORE, 9), Works([FIRST], None, 9)]:
            states = ((0, 0),) * len(works.machines)
            self.assertIs(is_position(works, (states, 0)), True)
            for thing in NO_WHOLES + [0, 1, -1, [states, 0], (list(states), 0), (states,), (states, 0, 0), states,
                                      (0, states), ((states, 0),), (states, (0,)), ({}, 0), (None, 0), (0, 0), "ab",
                                      ("ab", 0), {states: 0, 0: states}, works, FIRST, STORE, (works, 0),
                                      (dict.fromkeys([states]), 0)]:
                self.assertIs(is_position(works, thing), False, thing)
            self.assertIs(is_position(works, (tuple([list(state) for state in states]), 0)), False)

    def test_of_small_works(self):
        for works, position in small_works():
            self.assertIs(is_position(works, position), True)
            self.assertIs(is_position(works, (position[0] + ((0, 0),), position[1])), False)
            self.assertIs(is_position(works, (position[0], position[1] + 9)), False)


if __name__ == "__main__":
    unittest.main()
