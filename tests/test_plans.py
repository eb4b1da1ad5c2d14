import copy
import random
import unittest

from helper import (BIG, chance_plan, column, plain, slow_path_worth, slow_plan_fault, small_works)
from stintwise.machines import Machine
from stintwise.plans import left_over, plan_fault, position_behind
from stintwise.runs import run_state
from stintwise.stores import Store
from stintwise.works import Works

FIRST = Machine(2, 3, 5, 1, 2, 4, [(3, 2), (2, 7)])
SECOND = Machine(1, 1, 3, 2, 0, 2, [(2, 1)])
WORKS = Works([FIRST, SECOND, FIRST], Store(3, 1, 2, 4, 3), 9)
START = (((0, 0), (1, 0), (1, 1)), 1)
PLAN = [((0, 1, 1), (0, 2, 4), 2), ((1, 0, 1), (9, 0, 9), 3), ((1, 1, 0), (4, 4, 0), 1), ((1, 1, 0), (5, 3, 0), 1)]
WANTS = [5, 6, 7, 8]


def changed(plan, hour, ons=None, outputs=None, level=None):
    """The plan with something else in one hour."""
    plan = list(plan)
    former = plan[hour]
    plan[hour] = (former[0] if ons is None else ons, former[1] if outputs is None else outputs,
                  former[2] if level is None else level)
    return plan


class Faults(unittest.TestCase):

    def fault(self, plan, wants=WANTS):
        told = plan_fault(WORKS, START, wants, plan)
        self.assertEqual(told, slow_plan_fault(WORKS, START, wants, plan))
        self.assertTrue(told is None or isinstance(told, tuple))
        return told

    def test_none(self):
        self.assertIsNone(self.fault(PLAN))
        for works, position in small_works():
            self.assertIsNone(plan_fault(works, position, [], []))

    def test_hours(self):
        for hours in range(6):
            plan = (PLAN + PLAN)[:hours]
            for wants in range(6):
                told = plan_fault(WORKS, START, [3] * wants, plan)
                self.assertEqual(told == ("hours",), hours != wants, (hours, wants))
        # Told ahead of all that is wrong within the hours.
        wrong = [((0, 0, 0), (1, -1, 3), 77)] * 3
        self.assertEqual(plan_fault(WORKS, START, [1] * 2, wrong), ("hours",))
        self.assertEqual(plan_fault(WORKS, START, [1] * 4, wrong), ("hours",))
        self.assertEqual(plan_fault(WORKS, START, [], wrong), ("hours",))
        self.assertEqual(plan_fault(WORKS, START, [1], []), ("hours",))

    def test_fifty_hours(self):
        idle = Works([plain(), plain()], None, 3)
        plan = [((0, 1), (0, 0), 0)] * 50
        start = (((0, 0), (0, 0)), 0)
        self.assertIsNone(plan_fault(idle, start, [1] * 50, plan))
        self.assertEqual(plan_fault(idle, start, [1] * 48, plan), ("hours",))
        self.assertEqual(plan_fault(idle, start, [1] * 48, plan[:49]), ("hours",))
        self.assertIsNone(plan_fault(idle, start, [1] * 48, plan[:48]))
        plan[49] = ((0, 1), (0, 1), 0)
        self.assertEqual(plan_fault(idle, start, [1] * 50, plan), ("output", 49, 1))
        plan[24] = ((0, 1), (0, 0), 1)
        self.assertEqual(plan_fault(idle, start, [1] * 50, plan), ("level", 24))

    def test_runs(self):
        # The third machine must go on; it may not rest in hour 0, nor the first begin and end at once.
        self.assertEqual(self.fault(changed(PLAN, 0, (0, 1, 0), (0, 2, 0))), ("run", 0, 2))
        self.assertEqual(self.fault(changed(PLAN, 2, (0, 1, 0), (0, 4, 0))), ("run", 2, 0))
        self.assertEqual(self.fault(changed(PLAN, 3, (1, 1, 1), (4, 3, 4))), ("run", 3, 2))
        early = changed(changed(PLAN, 2, (1, 1, 1), (4, 4, 4)), 3, (0, 1, 1), (0, 4, 4))
        self.assertIsNone(self.fault(early))
        self.assertIsNone(self.fault(changed(early, 3, (1, 0, 0), (5, 0, 0))))
        works = Works([SECOND, FIRST], None, 1)
        for at, states in [(1, ((0, 0), (0, 2))), (0, ((0, 5), (0, 0))), (0, ((0, 1), (0, 1)))]:
            plan = [((1, 1), (2, 4), 0)] * 2
            self.assertEqual(plan_fault(works, (states, 0), [0, 0], plan), ("run", 0, at))
        plan = [((0, 0), (0, 0), 0)] * 2
        self.assertEqual(plan_fault(works, (((0, 0), (1, 1)), 0), [0, 0], plan), ("run", 0, 1))
        self.assertIsNone(plan_fault(works, (((1, 0), (1, 0)), 0), [0, 0], plan))

    def test_outputs(self):
        for hour, at, good, bad in [(0, 0, [0], [1, -1, 4, 9, BIG]), (0, 1, [2, 3, 4], [1, 0, 5, -1, -BIG, 10 ** 69]),
                                    (1, 0, [4, 8, 9], [3, 0, 10, -4, BIG, -10 ** 69]), (1, 1, [0], [2, 3, -2]),
                                    (3, 0, [4, 9], [3, 10]), (3, 1, [2, 4], [1, 5]), (3, 2, [0], [4, 9, -1, 1]),
                                    (1, 2, [4, 9], [3, 10, 0])]:
            for output in good + bad:
                outputs = list(PLAN[hour][1])
                outputs[at] = output
                told = self.fault(changed(PLAN, hour, None, tuple(outputs)))
                self.assertEqual(told, None if output in good else ("output", hour, at))

    def test_levels(self):
        # The level goes from 1 to 2, 3, 1 and stays; it may rise by 1 and fall by 2.
        for hour, bad in [(0, [3, -1, 4, BIG, -10 ** 69]), (1, [4, -1, 5, BIG]), (3, [3, 4, -1, -2, 10 ** 69])]:
            for level in bad:
                self.assertEqual(self.fault(changed(PLAN, hour, None, None, level)), ("level", hour), level)
        for level in [0, 1, 2]:
            self.assertIsNone(self.fault(changed(PLAN, 3, None, None, level)))
        self.assertEqual(self.fault(changed(PLAN, 2, None, None, 0)), ("level", 2))
        self.assertEqual(self.fault(changed(PLAN, 0, None, None, 1)), ("level", 1))

    def test_levels_without_a_store(self):
        works = Works([SECOND], None, 5)
        plan = [((1,), (3,), 0)] * 3
        self.assertIsNone(plan_fault(works, (((0, 0),), 0), [1, 2, 3], plan))
        for hour in range(3):
            for level in [1, -1, 2, BIG, -BIG]:
                told = plan_fault(works, (((0, 0),), 0), [1, 2, 3], changed(plan, hour, None, None, level))
                self.assertEqual(told, ("level", hour))

    def test_two_faults(self):
        # In one hour: runs ahead of outputs, outputs ahead of levels, each by machine.
        self.assertEqual(self.fault(changed(PLAN, 0, (0, 1, 0), (1, 2, 0), 9)), ("run", 0, 2))
        self.assertEqual(self.fault(changed(PLAN, 3, (1, 1, 1), (99, 99, 99), 9)), ("run", 3, 2))
        self.assertEqual(self.fault(changed(PLAN, 2, (0, 1, 0), (0, 9, 0), -1)), ("run", 2, 0))
        self.assertEqual(self.fault(changed(PLAN, 2, None, (4, 9, 1), -1)), ("output", 2, 1))
        self.assertEqual(self.fault(changed(PLAN, 2, None, (3, 9, 1), -1)), ("output", 2, 0))
        self.assertEqual(self.fault(changed(PLAN, 2, None, (4, 4, 1), -1)), ("output", 2, 2))
        both = Works([FIRST, FIRST], None, 3)
        self.assertEqual(plan_fault(both, (((1, 1), (1, 1)), 0), [0], [((0, 0), (0, 0), 0)]), ("run", 0, 0))
        self.assertEqual(plan_fault(both, (((1, 0), (1, 1)), 0), [0], [((0, 0), (5, 5), 1)]), ("run", 0, 1))
        # In two hours: the earlier one, whatever it is.
        late_run = changed(PLAN, 3, (1, 1, 1), (4, 3, 4))
        self.assertEqual(self.fault(changed(late_run, 2, None, None, 9)), ("level", 2))
        self.assertEqual(self.fault(changed(late_run, 0, None, (0, 1, 4))), ("output", 0, 1))
        late_output = changed(PLAN, 2, None, (0, 0, 7))
        self.assertEqual(self.fault(changed(late_output, 1, None, None, -1)), ("level", 1))

    def test_no_machines(self):
        works = Works([], Store(2, 1, 1, 1, 1), 5)
        plan = [((), (), 1), ((), (), 2), ((), (), 1)]
        self.assertIsNone(plan_fault(works, ((), 0), [3, 4, 5], plan))
        self.assertEqual(plan_fault(works, ((), 0), [3, 4, 5], changed(plan, 2, None, None, 0)), ("level", 2))
        self.assertEqual(plan_fault(works, ((), 0), [3, 4], plan), ("hours",))

    def test_by_chance(self):
        chance = random.Random(21)
        told = {}
        for works, position in small_works():
            for time in range(400):
                plan = chance_plan(chance, works, position, 7)
                self.assertIsNone(plan_fault(works, position, [4] * 7, plan))
                for change in range(chance.randrange(1, 4)):
                    self.disturb(chance, works, plan)
                right = slow_plan_fault(works, position, [4] * 7, plan)
                self.assertEqual(plan_fault(works, position, [4] * 7, plan), right)
                word = right and right[0]
                told[word] = told.get(word, 0) + 1
        self.assertEqual(set(told), {None, "run", "output", "level"})
        self.assertGreater(min(told.values()), 100)

    def disturb(self, chance, works, plan):
        """Change something in one hour, perhaps so that it is wrong."""
        hour = chance.randrange(len(plan))
        ons, outputs, level = [list(part) if isinstance(part, tuple) else part for part in plan[hour]]
        way = chance.randrange(4)
        if way == 0:
            level += chance.choice([-1, 1])
        elif ons:
            at = chance.randrange(len(ons))
            if way == 1:
                outputs[at] += chance.choice([-1, 1])
            else:
                ons[at] = 1 - ons[at]
                outputs[at] = works.machines[at].least if ons[at] else 0
        plan[hour] = (tuple(ons), tuple(outputs), level)


class Behind(unittest.TestCase):

    def test_no_hours(self):
        for works, position in small_works():
            self.assertEqual(position_behind(works, position, []), position)
            self.assertEqual(left_over(works, position, [], []), [])

    def test_by_hand(self):
        self.assertEqual(position_behind(WORKS, START, PLAN), (((1, 0), (1, 0), (0, 1)), 1))
        self.assertEqual(position_behind(WORKS, START, PLAN[:1]), (((0, 0), (1, 0), (1, 0)), 2))
        self.assertEqual(position_behind(WORKS, START, PLAN[:2]), (((1, 1), (0, 0), (1, 0)), 3))
        self.assertEqual(position_behind(WORKS, START, PLAN[:3]), (((1, 0), (1, 0), (0, 2)), 1))
        felled = (((0, 9), (0, 0), (1, 1)), 0)
        rests = [((0, 0, 1), (0, 0, 4), 0)] * 3
        self.assertEqual(position_behind(WORKS, felled, rests), (((0, 6), (0, 0), (1, 0)), 0))

    def test_many_hours(self):
        chance = random.Random(22)
        for works, position in small_works():
            for hours in (1, 2, 7, 48):
                plan = chance_plan(chance, works, position, hours)
                states = tuple(run_state(machine, position[0][at], column(plan, at))
                               for at, machine in enumerate(works.machines))
                told = position_behind(works, position, plan)
                self.assertEqual(told, (states, plan[-1][2]))
                self.assertIsInstance(told[0], tuple)


class LeftOver(unittest.TestCase):

    def test_by_hand(self):
        # Made are 6, 18, 8, 8; the store takes in 4, 4, gives out 6, and stays.
        self.assertEqual(left_over(WORKS, START, WANTS, PLAN), [(0, 3), (8, 0), (7, 0), (0, 0)])
        self.assertEqual(left_over(WORKS, START, [2, 14, 14, 9], PLAN), [(0, 0), (0, 0), (0, 0), (0, 1)])
        self.assertEqual(left_over(WORKS, START, [3, 13, 15, 7], PLAN), [(0, 1), (1, 0), (0, 1), (1, 0)])
        self.assertEqual(left_over(WORKS, START, [0, 0, 0, 0], PLAN), [(2, 0), (14, 0), (14, 0), (8, 0)])
        self.assertEqual(left_over(WORKS, START, [BIG] * 4, PLAN),
                         [(0, BIG - 2), (0, BIG - 14), (0, BIG - 14), (0, BIG - 8)])

    def test_without_machines_and_without_a_store(self):
        self.assertEqual(left_over(Works([], None, 5), ((), 0), [0, 4], [((), (), 0)] * 2), [(0, 0), (0, 4)])
        works = Works([], Store(2, 1, 1, 7, 5), 5)
        plan = [((), (), 1), ((), (), 1), ((), (), 0)]
        self.assertEqual(left_over(works, ((), 0), [0, 3, 4], plan), [(0, 7), (0, 3), (1, 0)])
        works = Works([SECOND], None, 5)
        plan = [((1,), (3,), 0), ((0,), (0,), 0), ((1,), (4,), 0)]
        self.assertEqual(left_over(works, (((1, 0),), 0), [1, 0, 9], plan), [(2, 0), (0, 0), (0, 5)])

    def test_by_chance(self):
        chance = random.Random(23)
        for works, position in small_works():
            for time in range(60):
                hours = chance.choice([1, 3, 8])
                plan = chance_plan(chance, works, position, hours)
                wants = [chance.randrange(16) for hour in range(hours)]
                told = left_over(works, position, wants, plan)
                self.assertEqual(len(told), hours)
                level = position[1]
                for want, (ons, outputs, later), left in zip(wants, plan, told):
                    taken = slow_path_worth(works.store, level, [1], [later]) if works.store else 0
                    self.assertEqual(left[0] - left[1], sum(outputs) - want - taken)
                    self.assertEqual(min(left), 0)
                    self.assertIsInstance(left, tuple)
                    level = later


class OwnLists(unittest.TestCase):

    def test_what_is_handed_in_stays_and_what_is_told_may_be_changed(self):
        plan, wants = copy.deepcopy(PLAN), list(WANTS)
        plan_fault(WORKS, START, wants, plan)
        position_behind(WORKS, START, plan)
        told = left_over(WORKS, START, wants, plan)
        self.assertEqual((plan, wants), (PLAN, WANTS))
        kept = list(told)
        told.append("changed")
        told[0] = "changed"
        self.assertEqual(left_over(WORKS, START, wants, plan), kept)
        nothing = left_over(WORKS, START, [], [])
        nothing.append("changed")
        self.assertEqual(left_over(WORKS, START, [], []), [])

    def test_changed_lists_are_looked_at_anew(self):
        plan, wants = copy.deepcopy(PLAN), list(WANTS)
        self.assertIsNone(plan_fault(WORKS, START, wants, plan))
        plan[3] = ((1, 1, 0), (5, 5, 0), 1)
        self.assertEqual(plan_fault(WORKS, START, wants, plan), ("output", 3, 1))
        plan[3] = ((1, 0, 0), (5, 0, 0), 2)
        self.assertIsNone(plan_fault(WORKS, START, wants, plan))
        self.assertEqual(position_behind(WORKS, START, plan), (((1, 0), (0, 0), (0, 1)), 2))
        wants[3] = 2
        self.assertEqual(left_over(WORKS, START, wants, plan)[3], (0, 1))
        wants.pop()
        self.assertEqual(plan_fault(WORKS, START, wants, plan), ("hours",))


if __name__ == "__main__":
    unittest.main()
