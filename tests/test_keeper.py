import copy
import itertools
import random
import unittest

from helper import BIG, chance_works, plain, slow_felled, slow_plan_cost, small_works, soon
from stintwise.errors import NoDeed, NoHour, StintError, TooMany
from stintwise.keeper import Keeper
from stintwise.machines import Machine
from stintwise.plans import plan_fault, position_behind
from stintwise.stores import Store
from stintwise.whole import cheapest_plan, least_cost
from stintwise.works import Works

FIRST = Machine(2, 3, 5, 1, 2, 1, [(3, 2)])
SECOND = Machine(1, 2, 3, 2, 0, 0, [(2, 1), (1, 3)])
WORKS = Works([FIRST, SECOND], Store(2, 1, 1, 2, 2), 9)
START = (((0, 0), (1, 0)), 1)

# Six machines and a store of 576 positions behind each hour: eight hours are taken, nine are not.
WIDE = Works([plain(pieces=[(2, 1)])] * 6, Store(8, 8, 8, 1, 1), 30)
WIDE_START = (((0, 0),) * 6, 4)


def seen(keeper):
    """All that a Keeper tells, but for its plan."""
    return keeper.waiting(), keeper.gone(), keeper.now(), keeper.spent()


def replayed(works, position, deeds):
    """All that a Keeper must tell behind these deeds, reckoned from the first one on."""
    waiting, gone, spent = [], [], 0
    for name, *values in deeds:
        if name == "tell":
            waiting.append(values[0])
        elif name == "change":
            waiting[values[0]] = values[1]
        elif name == "fall":
            position = slow_felled(works, position, *values)
        else:
            planned = cheapest_plan(works, position, waiting)[1][0]
            want = waiting.pop(0)
            gone.append((want, planned))
            spent += slow_plan_cost(works, position, [want], [planned])
            position = position_behind(works, position, [planned])
    return waiting, gone, position, spent


class Deeds(unittest.TestCase):

    def test_at_first(self):
        for works, position in small_works():
            keeper = Keeper(works, position)
            self.assertEqual(seen(keeper), ([], [], position, 0))
            self.assertEqual(keeper.due_plan(), (0, []))

    def test_by_hand(self):
        works = Works([FIRST], None, 9)
        keeper = Keeper(works, (((0, 0),), 0))
        self.assertIsNone(keeper.tell(4))
        self.assertIsNone(keeper.tell(2))
        self.assertEqual(seen(keeper), ([4, 2], [], (((0, 0),), 0), 0))
        self.assertEqual(keeper.due_plan(), (15, [((1,), (4,), 0), ((1,), (2,), 0)]))
        self.assertEqual(keeper.go(), ((1,), (4,), 0))
        self.assertEqual(seen(keeper), ([2], [(4, ((1,), (4,), 0))], (((1, 1),), 0), 12))
        self.assertIsNone(keeper.change(0, 3))
        self.assertEqual(keeper.due_plan(), (5, [((1,), (3,), 0)]))
        self.assertIsNone(keeper.fall(0, 2))
        self.assertEqual(seen(keeper), ([3], [(4, ((1,), (4,), 0))], (((0, 3),), 0), 12))
        self.assertEqual(keeper.go(), ((0,), (0,), 0))
        self.assertEqual(keeper.spent(), 12 + 2 + 27)
        self.assertEqual(keeper.gone(), [(4, ((1,), (4,), 0)), (3, ((0,), (0,), 0))])
        self.assertEqual(keeper.now(), (((0, 2),), 0))
        self.assertIsNone(keeper.undo())
        self.assertEqual(seen(keeper), ([3], [(4, ((1,), (4,), 0))], (((0, 3),), 0), 12))

    def test_tell_and_waiting(self):
        keeper = Keeper(WORKS, START)
        for many in range(48):
            self.assertEqual(keeper.waiting(), list(range(many)))
            keeper.tell(many)
        self.assertEqual(keeper.waiting(), list(range(48)))
        self.assertEqual(keeper.gone(), [])
        keeper = Keeper(WORKS, START)
        keeper.tell(BIG)
        keeper.tell(0)
        self.assertEqual(keeper.waiting(), [BIG, 0])

    def test_change(self):
        keeper = Keeper(WORKS, START)
        for want in [5, 6, 7]:
            keeper.tell(want)
        keeper.change(1, 0)
        self.assertEqual(keeper.waiting(), [5, 0, 7])
        keeper.change(0, BIG)
        keeper.change(2, 3)
        self.assertEqual(keeper.waiting(), [BIG, 0, 3])
        keeper.change(2, 3)
        self.assertEqual(keeper.waiting(), [BIG, 0, 3])
        # The places are those of the hours that wait: they go on with each hour that is gone.
        keeper.go()
        keeper.change(0, 9)
        self.assertEqual(keeper.waiting(), [9, 3])

    def test_change_where_none_waits(self):
        keeper = Keeper(WORKS, START)
        for at in [0, 1, -1, 47, 48, 10 ** 69]:
            with self.assertRaises(NoHour):
                keeper.change(at, 4)
        keeper.tell(5)
        keeper.tell(6)
        for at in [2, 3, -1, -2, -3, BIG, -10 ** 69]:
            with self.assertRaises(NoHour) as taken:
                keeper.change(at, 4)
            self.assertIsInstance(taken.exception, StintError)
            self.assertEqual(keeper.waiting(), [5, 6])
        keeper.tell(7)
        keeper.change(2, 8)
        self.assertEqual(keeper.waiting(), [5, 6, 8])
        keeper.go()
        with self.assertRaises(NoHour):
            keeper.change(2, 1)
        self.assertEqual(keeper.waiting(), [6, 8])

    def test_go_where_none_waits(self):
        keeper = Keeper(WORKS, START)
        with self.assertRaises(NoHour):
            keeper.go()
        keeper.tell(3)
        keeper.go()
        before = seen(keeper)
        with self.assertRaises(NoHour):
            keeper.go()
        self.assertEqual(seen(keeper), before)
        keeper.tell(4)
        keeper.go()
        self.assertEqual([want for want, planned in keeper.gone()], [3, 4])

    def test_go_is_the_first_hour_of_the_due_plan(self):
        chance = random.Random(91)
        for works, position in small_works()[:-1] + [chance_works(chance) for time in range(30)]:
            keeper = Keeper(works, position)
            for want in [5, 0, 7, 2]:
                keeper.tell(want)
            while keeper.waiting():
                cost, plan = keeper.due_plan()
                self.assertEqual((cost, plan), cheapest_plan(works, keeper.now(), keeper.waiting()))
                self.assertEqual(keeper.go(), plan[0])
                self.assertEqual(keeper.gone()[-1][1], plan[0])
            wants = [want for want, planned in keeper.gone()]
            plan = [planned for want, planned in keeper.gone()]
            self.assertEqual(wants, [5, 0, 7, 2])
            self.assertIsNone(plan_fault(works, position, wants, plan))
            self.assertEqual(keeper.spent(), slow_plan_cost(works, position, wants, plan))
            self.assertEqual(keeper.now(), position_behind(works, position, plan))

    def test_too_many(self):
        keeper = Keeper(WIDE, WIDE_START)
        for want in [3, 1, 4, 1, 5, 9, 2, 6]:
            keeper.tell(want)
        with soon(20):
            plan = keeper.due_plan()
        keeper.tell(5)
        before = seen(keeper)
        for ask in [keeper.go, keeper.due_plan, keeper.go]:
            with soon(10), self.assertRaises(TooMany) as taken:
                ask()
            self.assertEqual(taken.exception.limit, 5000)
            self.assertEqual(seen(keeper), before)
        # What is refused is no deed: the last one was to tell 5.
        keeper.undo()
        self.assertEqual(keeper.waiting(), [3, 1, 4, 1, 5, 9, 2, 6])
        with soon(20):
            self.assertEqual(keeper.due_plan(), plan)
            self.assertEqual(keeper.go(), plan[1][0])

    def test_fall_of_a_machine_that_runs_and_of_one_that_rests(self):
        keeper = Keeper(WORKS, (((1, 1), (0, 1)), 0))
        keeper.fall(0, 1)
        self.assertEqual(keeper.now(), (((0, 3), (0, 1)), 0))
        keeper.fall(1, 1)
        self.assertEqual(keeper.now(), (((0, 3), (0, 1)), 0))
        keeper.fall(1, 7)
        self.assertEqual(keeper.now(), (((0, 3), (0, 7)), 0))
        # Twice: the longer of the two holds.
        keeper.fall(0, 2)
        self.assertEqual(keeper.now(), (((0, 3), (0, 7)), 0))
        keeper.fall(0, 48)
        self.assertEqual(keeper.now(), (((0, 48), (0, 7)), 0))
        keeper.fall(0, 5)
        self.assertEqual(keeper.now(), (((0, 48), (0, 7)), 0))
        self.assertEqual((keeper.gone(), keeper.spent(), keeper.waiting()), ([], 0, []))
        keeper.tell(4)
        self.assertEqual(keeper.go(), ((0, 0), (0, 0), 0))
        self.assertEqual(keeper.now(), (((0, 47), (0, 6)), 0))
        running = Keeper(WORKS, (((1, 1), (1, 0)), 0))
        running.fall(0, 9)
        self.assertEqual(running.now(), (((0, 9), (1, 0)), 0))

    def test_fall_of_the_same_machine_at_two_places(self):
        works = Works([FIRST, FIRST], None, 9)
        keeper = Keeper(works, (((1, 0), (1, 0)), 0))
        keeper.fall(1, 1)
        self.assertEqual(keeper.now(), (((1, 0), (0, 3)), 0))
        keeper.undo()
        keeper.fall(0, 6)
        self.assertEqual(keeper.now(), (((0, 6), (1, 0)), 0))


class Undone(unittest.TestCase):

    def test_none(self):
        keeper = Keeper(WORKS, START)
        for time in range(2):
            with self.assertRaises(NoDeed) as taken:
                keeper.undo()
            self.assertIsInstance(taken.exception, StintError)
            self.assertEqual(seen(keeper), ([], [], START, 0))
        keeper.tell(3)
        keeper.undo()
        with self.assertRaises(NoDeed):
            keeper.undo()

    def test_each_deed(self):
        keeper = Keeper(WORKS, START)
        stages = [seen(keeper)]
        for deed in [lambda: keeper.tell(7), lambda: keeper.tell(5), lambda: keeper.change(1, 6), keeper.go,
                     lambda: keeper.fall(0, 4), lambda: keeper.tell(0), keeper.go, lambda: keeper.change(0, 2),
                     keeper.go, lambda: keeper.fall(1, 48)]:
            deed()
            stages.append(seen(keeper))
        for stage in stages[-2::-1]:
            self.assertIsNone(keeper.undo())
            self.assertEqual(seen(keeper), stage)
        with self.assertRaises(NoDeed):
            keeper.undo()

    def test_behind_a_go_its_want_waits_again_as_the_first(self):
        keeper = Keeper(WORKS, START)
        for want in [7, 5, 3]:
            keeper.tell(want)
        first = keeper.go()
        keeper.undo()
        self.assertEqual(seen(keeper), ([7, 5, 3], [], START, 0))
        self.assertEqual(keeper.go(), first)
        keeper.go()
        keeper.undo()
        self.assertEqual(keeper.waiting(), [5, 3])
        self.assertEqual(keeper.gone(), [(7, first)])

    def test_what_changed_nothing_is_a_deed_too(self):
        keeper = Keeper(WORKS, START)
        keeper.tell(7)
        keeper.change(0, 7)
        keeper.fall(0, 1)
        before = seen(keeper)
        keeper.fall(0, 1)
        self.assertEqual(seen(keeper), before)
        keeper.undo()
        self.assertEqual(seen(keeper), before)
        keeper.undo()
        self.assertEqual(seen(keeper), ([7], [], START, 0))
        keeper.undo()
        self.assertEqual(seen(keeper), ([7], [], START, 0))
        keeper.undo()
        self.assertEqual(seen(keeper), ([], [], START, 0))

    def test_an_undo_is_not_undone(self):
        keeper = Keeper(WORKS, START)
        keeper.tell(7)
        keeper.tell(5)
        keeper.undo()
        keeper.undo()
        self.assertEqual(keeper.waiting(), [])
        keeper.tell(1)
        keeper.undo()
        self.assertEqual(keeper.waiting(), [])

    def test_what_is_refused_is_no_deed(self):
        keeper = Keeper(WORKS, START)
        keeper.tell(7)
        keeper.go()
        for refused in [keeper.go, lambda: keeper.change(0, 4), lambda: keeper.change(-1, 4)]:
            with self.assertRaises(NoHour):
                refused()
        keeper.undo()
        self.assertEqual(seen(keeper), ([7], [], START, 0))

    def test_asking_is_no_deed(self):
        keeper = Keeper(WORKS, START)
        keeper.tell(7)
        before = seen(keeper)
        keeper.due_plan()
        seen(keeper)
        self.assertEqual(seen(keeper), before)
        keeper.undo()
        self.assertEqual(keeper.waiting(), [])
        with self.assertRaises(NoDeed):
            keeper.undo()


class ManyOrders(unittest.TestCase):

    def deed(self, chance, works, waiting):
        """A deed by chance, perhaps one that is refused."""
        name = chance.choice(["tell", "tell", "change", "fall", "go", "go", "undo"])
        if name == "tell":
            return (name, chance.choice([0, chance.randrange(9)]))
        if name == "change":
            return (name, chance.randrange(-1, waiting + 1), chance.randrange(9))
        if name == "fall" and works.machines:
            return (name, chance.randrange(len(works.machines)), chance.choice([1, 1, 2, 3, 48]))
        return ("undo",) if name == "undo" else ("go",)

    def test_against_deeds_done_again_from_the_first_on(self):
        chance = random.Random(92)
        refused = {NoHour: 0, NoDeed: 0}
        for time in range(80):
            works, position = chance_works(chance)
            keeper = Keeper(works, position)
            done = []
            for step in range(25):
                waiting = keeper.waiting()
                deed = self.deed(chance, works, len(waiting))
                wrong = self.wrong(deed, waiting, done)
                if wrong:
                    refused[wrong] += 1
                    with self.assertRaises(wrong):
                        self.do(keeper, deed)
                else:
                    told = self.do(keeper, deed)
                    if deed[0] == "undo":
                        done.pop()
                    else:
                        done.append(deed)
                    self.assertEqual(told, keeper.gone()[-1][1] if deed[0] == "go" else None)
                right = replayed(works, position, done)
                self.assertEqual(seen(keeper), right)
                self.assertEqual(keeper.due_plan(), cheapest_plan(works, right[2], right[0]))
            while done:
                done.pop()
                keeper.undo()
                self.assertEqual(seen(keeper), replayed(works, position, done))
            with self.assertRaises(NoDeed):
                keeper.undo()
        self.assertGreater(min(refused.values()), 20)

    def wrong(self, deed, waiting, done):
        """The refusal that a deed must meet, or None."""
        if deed[0] == "undo":
            return None if done else NoDeed
        if deed[0] == "go":
            return None if waiting else NoHour
        if deed[0] == "change":
            return None if 0 <= deed[1] < len(waiting) else NoHour
        return None

    def do(self, keeper, deed):
        ways = {"tell": keeper.tell, "change": keeper.change, "fall": keeper.fall, "go": keeper.go, "undo": keeper.undo}
        return ways[deed[0]](*deed[1:])


class OwnLists(unittest.TestCase):

    def test_told_lists_may_be_changed(self):
        keeper = Keeper(WORKS, START)
        for want in [7, 5, 3]:
            keeper.tell(want)
        keeper.go()
        before = copy.deepcopy(seen(keeper))
        plan = copy.deepcopy(keeper.due_plan())
        for told in [keeper.waiting(), keeper.gone(), keeper.due_plan()[1]]:
            told[0] = "changed"
            told.append("changed")
        self.assertEqual(seen(keeper), before)
        self.assertEqual(keeper.due_plan(), plan)
        keeper.undo()
        self.assertEqual(seen(keeper), ([7, 5, 3], [], START, 0))

    def test_nothing_done_later_changes_what_was_told(self):
        keeper = Keeper(WORKS, START)
        keeper.tell(7)
        keeper.tell(5)
        keeper.go()
        told = [keeper.waiting(), keeper.gone(), keeper.due_plan()]
        kept = copy.deepcopy(told)
        keeper.change(0, 1)
        keeper.tell(2)
        keeper.go()
        keeper.fall(0, 3)
        for time in range(6):
            keeper.undo()
        self.assertEqual(told, kept)

    def test_two_keepers_share_nothing(self):
        one, other = Keeper(WORKS, START), Keeper(WORKS, START)
        one.tell(7)
        one.tell(5)
        one.go()
        one.fall(0, 3)
        self.assertEqual(seen(other), ([], [], START, 0))
        with self.assertRaises(NoDeed):
            other.undo()
        other.tell(1)
        one.undo()
        self.assertEqual(other.waiting(), [1])
        self.assertEqual(one.waiting(), [5])

    def test_the_handed_list_of_machines_may_be_changed(self):
        machines = [FIRST, SECOND]
        keeper = Keeper(Works(machines, None, 9), (((0, 0), (1, 0)), 0))
        machines.clear()
        keeper.tell(4)
        self.assertEqual(keeper.go(), cheapest_plan(Works([FIRST, SECOND], None, 9), (((0, 0), (1, 0)), 0), [4])[1][0])


class Late(unittest.TestCase):

    def test_all_told_ahead(self):
        chance = random.Random(93)
        for works, position in small_works()[:-1] + [chance_works(chance, 3) for time in range(60)]:
            wants = [chance.randrange(9) for hour in range(5)]
            keeper = Keeper(works, position)
            for want in [3] * 5:
                keeper.tell(want)
            # Changes ahead of the first hour, and deeds that are taken back, make no difference.
            for at, want in enumerate(wants):
                keeper.change(at, want)
            keeper.go()
            keeper.go()
            keeper.undo()
            least = least_cost(works, position, wants)
            while keeper.waiting():
                self.assertEqual(keeper.spent() + keeper.due_plan()[0], least)
                keeper.go()
            self.assertEqual(keeper.spent(), least)
            self.assertEqual([want for want, planned in keeper.gone()], wants)

    def check(self, keeper, works, position):
        gone = [want for want, planned in keeper.gone()]
        self.assertGreaterEqual(keeper.spent(), least_cost(works, position, gone))
        whole = keeper.spent() + keeper.due_plan()[0]
        least = least_cost(works, position, gone + keeper.waiting())
        self.assertGreaterEqual(whole, least)
        return whole > least

    def test_told_late(self):
        chance = random.Random(94)
        dearer = 0
        for time in range(120):
            works, position = chance_works(chance)
            keeper = Keeper(works, position)
            for step in range(14):
                way = chance.randrange(6)
                waiting = keeper.waiting()
                if way < 2 or not waiting:
                    keeper.tell(chance.choice([0, chance.randrange(12)]))
                elif way < 4:
                    keeper.go()
                elif way == 4:
                    keeper.change(chance.randrange(len(waiting)), chance.randrange(12))
                elif works.machines:
                    # A fall that is taken back is as if it hadn't been.
                    keeper.fall(chance.randrange(len(works.machines)), 3)
                    keeper.undo()
                if way == 3 and chance.randrange(3) == 0:
                    keeper.undo()
                dearer += self.check(keeper, works, position)
        self.assertGreater(dearer, 50)

    def test_all_orders_of_telling_and_going(self):
        works = Works([FIRST], Store(1, 1, 1, 2, 2), 9)
        position = (((0, 0),), 0)
        costs = set()
        for order in itertools.product("tg", repeat=8):
            if order.count("t") != 4 or any(order[:at].count("g") > order[:at].count("t") for at in range(9)):
                continue
            keeper = Keeper(works, position)
            wants = [1, 6, 0, 4]
            for deed in order:
                if deed == "t":
                    keeper.tell(wants.pop(0))
                else:
                    keeper.go()
                self.check(keeper, works, position)
            costs.add(keeper.spent())
        self.assertEqual(min(costs), least_cost(works, position, [1, 6, 0, 4]))
        self.assertGreater(len(costs), 1)

    def test_forty_eight_hours(self):
        works = Works([FIRST], Store(1, 1, 1, 2, 2), 9)
        position = (((0, 0),), 0)
        wants = [(hour * 5) % 7 for hour in range(48)]
        keeper = Keeper(works, position)
        for want in wants:
            keeper.tell(want)
        with soon(60):
            while keeper.waiting():
                keeper.go()
        self.assertEqual(keeper.spent(), least_cost(works, position, wants))
        self.assertEqual(len(keeper.gone()), 48)
        for time in range(96):
            keeper.undo()
        self.assertEqual(seen(keeper), ([], [], position, 0))


if __name__ == "__main__":
    unittest.main()
