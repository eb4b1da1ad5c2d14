"""What the document promises over the whole program, of works with none to two machines, with a store and without."""

import copy
import itertools
import random
import unittest

from helper import (all_plans, chance_plan, chance_works, good_runs, keeps_stints, outputs_for, rows, slow_cheapest,
                    slow_cost, slow_felled, slow_path_worth, slow_paths, slow_plan_cost, slow_run_worth, soon)
from stintwise.alone import cheapest_run, run_worth, run_worths
from stintwise.bounds import price_bound, price_gaps
from stintwise.climbs import climbed, raised_price
from stintwise.errors import NoDeed, NoHour, NoText, NotNow, StintError, TooMany, Wrong
from stintwise.keeper import Keeper
from stintwise.ledgers import compared, ledger_of, plan_cost
from stintwise.machines import Machine
from stintwise.margins import margin_price, shows_share
from stintwise.mends import mended
from stintwise.paths import cheapest_path, path_fault, path_worth, path_worths, shows_path
from stintwise.planpapers import shows_plan
from stintwise.plans import left_over, plan_fault, position_behind
from stintwise.runpapers import shows_run
from stintwise.runs import run_fault, run_state
from stintwise.shares import share_cost, share_out
from stintwise.stints import all_runs, run_count
from stintwise.stores import Store
from stintwise.texts import read_plan, read_works, show_plan, show_works
from stintwise.whole import cheapest_plan, least_cost, plan_worths
from stintwise.works import Works, is_position


def cases(seed, hours, many=24):
    """Tuples (chance, works, position, wants): as many of none, one and two machines, with a store and without."""
    chance = random.Random(seed)
    found = {}
    while len(found) < 6 or min(found.values()) < many // 6:
        works, position = chance_works(chance)
        kind = (len(works.machines), works.store is None)
        found[kind] = found.get(kind, 0) + 1
        if found[kind] <= many // 6:
            yield chance, works, position, [chance.choice([0, chance.randrange(9)]) for hour in range(hours)]


class Promise(unittest.TestCase):

    def test_a_runs(self):
        for chance, works, position, wants in cases(111, 6):
            for machine, state in zip(works.machines, position[0]):
                runs = good_runs(machine, state, 6)
                self.assertEqual(all_runs(machine, state, 6, 500), runs)
                self.assertEqual(run_count(machine, state, 6), len(runs))
                for run in rows(6):
                    self.assertEqual(run_fault(machine, state, run) is None, keeps_stints(machine, state, run))

    def test_a_the_runs_of_plans(self):
        for chance, works, position, wants in cases(112, 5, 60):
            for plan in [chance_plan(chance, works, position, 5), cheapest_plan(works, position, wants)[1]]:
                states = []
                for at, machine in enumerate(works.machines):
                    run = [planned[0][at] for planned in plan]
                    self.assertTrue(keeps_stints(machine, position[0][at], run))
                    states.append(run_state(machine, position[0][at], run))
                self.assertEqual(position_behind(works, position, plan)[0], tuple(states))

    def test_b_sharing(self):
        for chance, works, position, wants in cases(113, 4, 60):
            for ons in itertools.product((0, 1), repeat=len(works.machines)):
                running = [machine for machine, on in zip(works.machines, ons) if on]
                for want in wants:
                    self.check_sharing(works, ons, running, want)

    def check_sharing(self, works, ons, running, want):
        costs = []
        for outputs in outputs_for(works, ons):
            making = sum(slow_cost(machine, output) for machine, output, on in zip(works.machines, outputs, ons) if on)
            costs.append(making + works.lack * max(want - sum(outputs), 0))
        self.assertEqual(share_cost(running, want, works.lack), min(costs))
        price = margin_price(running, want, works.lack)
        outputs, waste, lacking = share_out(running, want, works.lack)
        self.assertEqual(waste - lacking, sum(outputs) - want)
        self.assertIs(shows_share(running, want, works.lack, outputs, price), True)

    def test_c_alone(self):
        for chance, works, position, wants in cases(114, 4, 60):
            prices = [chance.randrange(works.lack + 1) for hour in range(4)]
            for machine, state in zip(works.machines, position[0]):
                worths = [(slow_run_worth(machine, state, prices, run), run) for run in good_runs(machine, state, 4)]
                self.assertEqual(cheapest_run(machine, state, prices), min(worths))
                table = run_worths(machine, state, prices)
                self.assertIs(shows_run(machine, state, prices, table, min(worths)[0]), True)
                self.assertIs(shows_run(machine, state, prices, table, min(worths)[0] + 1), False)
            if works.store is not None:
                paths = slow_paths(works.store, position[1], 4)
                worths = [(slow_path_worth(works.store, position[1], prices, path), path) for path in paths]
                self.assertEqual(cheapest_path(works.store, position[1], prices), min(worths))
                table = path_worths(works.store, position[1], prices)
                self.assertIs(shows_path(works.store, position[1], prices, table, min(worths)[0]), True)

    def test_d_bounds(self):
        for chance, works, position, wants in cases(115, 2):
            least = least_cost(works, position, wants)
            rows_of_prices = [[chance.randrange(works.lack + 1) for want in wants] for time in range(2)]
            rows_of_prices.append(climbed(works, position, wants, rows_of_prices[0], 4)[0])
            for prices in rows_of_prices:
                bound = price_bound(works, position, wants, prices)
                self.assertLessEqual(bound, least)
                for plan in itertools.islice(all_plans(works, position, 2), 0, None, 3):
                    machines, store, wastes, lacks = price_gaps(works, position, wants, plan, prices)
                    parts = machines + [store] + wastes + lacks
                    self.assertGreaterEqual(min(parts), 0)
                    self.assertEqual(bound + sum(parts), slow_plan_cost(works, position, wants, plan))

    def test_e_the_cheapest_plan(self):
        for chance, works, position, wants in cases(116, 2):
            cost, plan = cheapest_plan(works, position, wants)
            self.assertIsNone(plan_fault(works, position, wants, plan))
            costs = [slow_plan_cost(works, position, wants, each) for each in all_plans(works, position, 2)]
            self.assertEqual((cost, plan_cost(works, position, wants, plan)), (min(costs), min(costs)))
            table = plan_worths(works, position, wants)
            self.assertIs(shows_plan(works, position, wants, table, cost), True)
            self.assertIs(shows_plan(works, position, wants, table, cost + 1), False)

    def test_e_the_rest_of_it(self):
        for chance, works, position, wants in cases(117, 4, 60):
            cost, plan = cheapest_plan(works, position, wants)
            for hour in range(5):
                behind = position_behind(works, position, plan[:hour])
                rest = least_cost(works, behind, wants[hour:])
                self.assertEqual(plan_cost(works, behind, wants[hour:], plan[hour:]), rest)
                self.assertEqual(plan_cost(works, position, wants[:hour], plan[:hour]) + rest, cost)

    def test_f_falls(self):
        for chance, works, position, wants in cases(118, 3, 60):
            plan = cheapest_plan(works, position, wants)[1]
            for hour, at in itertools.product(range(4), range(len(works.machines))):
                hours = chance.choice([1, 2, 3, 30])
                cost, mends = mended(works, position, wants, plan, hour, at, hours)
                self.assertEqual(mends[:hour], plan[:hour])
                felled = slow_felled(works, position_behind(works, position, plan[:hour]), at, hours)
                self.assertIsNone(plan_fault(works, felled, wants[hour:], mends[hour:]))
                ahead = plan_cost(works, position, wants[:hour], plan[:hour])
                self.assertEqual(cost, ahead + slow_cheapest(works, felled, wants[hour:])[0])

    def test_g_hours_told_ahead_and_late(self):
        for chance, works, position, wants in cases(119, 4, 60):
            least = slow_cheapest(works, position, wants)[0]
            self.assertEqual(self.spent(works, position, wants, len(wants)), least)
            for ahead in range(1, len(wants)):
                self.assertGreaterEqual(self.spent(works, position, wants, ahead), least)

    def spent(self, works, position, wants, ahead):
        """What a Keeper spends where so many hours at most wait at a time."""
        keeper = Keeper(works, position)
        for want in wants:
            if len(keeper.waiting()) == ahead:
                keeper.go()
            keeper.tell(want)
        while keeper.waiting():
            keeper.go()
        return keeper.spent()


def fields(works):
    """All that makes works what they are, with the very objects in it."""
    machines = [(machine, copy.deepcopy(vars(machine))) for machine in works.machines]
    return machines, works.store, works.store and dict(vars(works.store)), works.lack


class WhoseLists(unittest.TestCase):

    def test_asking_changes_no_works_and_nothing_handed_in(self):
        for chance, works, position, wants in cases(121, 3):
            plan = chance_plan(chance, works, position, 3)
            other = chance_plan(chance, works, position, 3)
            prices = [chance.randrange(works.lack + 1) for hour in range(3)]
            table = plan_worths(works, position, wants)
            handed = (wants, plan, other, prices, table)
            kept, made = copy.deepcopy(handed), fields(works)
            for ask in self.questions(works, position, wants, plan, other, prices, table):
                first = copy.deepcopy(ask())
                self.assertEqual(handed, kept)
                self.assertEqual(fields(works), made)
                self.disturb(ask())
                self.assertEqual(ask(), first)
                self.assertEqual(handed, kept)
                self.assertEqual(fields(works), made)

    def questions(self, works, position, wants, plan, other, prices, table):
        """All that can be asked of works, a plan, prices and a table."""
        asks = [lambda: is_position(works, position), lambda: plan_fault(works, position, wants, plan),
                lambda: position_behind(works, position, plan), lambda: left_over(works, position, wants, plan),
                lambda: ledger_of(works, position, wants, plan), lambda: plan_cost(works, position, wants, plan),
                lambda: compared(works, position, wants, plan, other),
                lambda: price_bound(works, position, wants, prices),
                lambda: price_gaps(works, position, wants, plan, prices),
                lambda: raised_price(works, position, wants, prices, 1),
                lambda: climbed(works, position, wants, prices, 3), lambda: least_cost(works, position, wants),
                lambda: cheapest_plan(works, position, wants), lambda: plan_worths(works, position, wants),
                lambda: shows_plan(works, position, wants, table, table[0][0][1]), lambda: show_plan(plan),
                lambda: show_works(works), lambda: read_plan(show_plan(plan))]
        if works.machines:
            asks.append(lambda: mended(works, position, wants, plan, 2, 0, 2))
            asks.append(lambda: run_worth(works.machines[0], position[0][0], prices, [each[0][0] for each in plan]))
        if works.store:
            asks.append(lambda: path_fault(works.store, position[1], [each[2] for each in plan]))
            asks.append(lambda: path_worth(works.store, position[1], prices, [each[2] for each in plan]))
        return asks

    def disturb(self, told):
        """Change each list that was told, with all lists within it."""
        if isinstance(told, (list, tuple)):
            for each in told:
                self.disturb(each)
        if isinstance(told, list):
            told.append("changed")
            told[0] = "changed"


class Refusals(unittest.TestCase):

    def test_each_straight_under_the_one(self):
        self.assertEqual(StintError.__bases__, (ValueError,))
        for refusal in [Wrong, NotNow, TooMany, NoHour, NoDeed, NoText]:
            self.assertEqual(refusal.__bases__, (StintError,))

    def test_each_is_met(self):
        works = Works([Machine(2, 1, 0, 0, 0, 0, [])] * 6, Store(8, 8, 8, 0, 0), 0)
        start = (((0, 0),) * 6, 0)
        keeper = Keeper(works, start)
        for refusal, ask in [(Wrong, lambda: Works([], None, -1)), (NoHour, keeper.go), (NoDeed, keeper.undo),
                             (NotNow, lambda: run_state(works.machines[0], (1, 1), [0])),
                             (TooMany, lambda: least_cost(works, start, [0] * 48)), (NoText, lambda: read_works(""))]:
            with self.assertRaises(StintError) as taken:
                ask()
            self.assertIs(taken.exception.__class__, refusal)


class SomewhatBeyond(unittest.TestCase):
    """Rows that are a little longer than the document's bounds are not refused."""

    def test_more_hours(self):
        works = Works([Machine(2, 3, 5, 1, 2, 1, [(3, 2)])], Store(1, 1, 1, 2, 2), 9)
        start = (((0, 0),), 0)
        wants = [(hour * 5) % 7 for hour in range(52)]
        with soon(60):
            cost, plan = cheapest_plan(works, start, wants)
            self.assertEqual(plan_cost(works, start, wants, plan), cost)
            self.assertIs(shows_plan(works, start, wants, plan_worths(works, start, wants), cost), True)
            prices, bound, still = climbed(works, start, wants, [0] * 52, 10)
            self.assertLessEqual(bound, cost)
            self.assertEqual(read_plan(show_plan(plan)), plan)
            keeper = Keeper(works, start)
            for want in wants:
                keeper.tell(want)
            self.assertEqual(keeper.due_plan(), (cost, plan))
            self.assertEqual(keeper.go(), plan[0])
            self.assertEqual(mended(works, start, wants, plan, 0, 0, 50)[1][:50], [
                ((0,), (0,), 0)] * 50)


if __name__ == "__main__":
    unittest.main()
