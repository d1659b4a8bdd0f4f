"""Holding: barred cuts, and walkers who hold a passage up for ever."""

import copy
import random
import time
import unittest

from leavefirst.entering import carry
from leavefirst.errors import Tangled, TooMany
from leavefirst.holding import barred_cuts, holder
from leavefirst.walks import still_walk, walk
from tests.helper import HOUSE, has_round, is_deeply_tuple, plan_of, raised, some_cases
from tests.naive import all_cuts, entered_from, held, is_below, some_ruled
from tests.plain import barred_of, is_hold, some_busy_house, some_hold, walkers_in

WAITS, DRAINS = ((2, 0),), ((0, 1),)
RING = (((0, ((0, 1),)), (0, ((1, 1),))), (0,), (("read", 0, ((1, 1),), 0), ("end", "good")))
SIX = plan_of((0, 1), (2, 3), (4, 5))


class BarredTest(unittest.TestCase):
    def test_the_example(self):
        self.assertEqual(barred_cuts(RING, (), ((1, 0),)), ((0, 1),))
        self.assertEqual(barred_cuts(drains=((1, 0),), waits=(), plan=RING), ((0, 1),))

    def test_the_house(self):
        self.assertEqual(barred_cuts(HOUSE, WAITS, DRAINS), ((1, 0, 1),))
        self.assertEqual(barred_cuts(HOUSE, (), ((0, 1),)), ((1, 0, 1),))
        self.assertEqual(barred_cuts(HOUSE, (), ((0, 1), (2, 1))), ((1, 0, 1),))

    def test_without_drains_no_cut_is_barred(self):
        for plan, waits, _ in some_cases(71, 60):
            if not has_round(plan, waits, ()):
                self.assertEqual(barred_cuts(plan, waits, ()), ())

    def test_the_last_cut_is_not_barred(self):
        self.assertEqual(barred_cuts(plan_of((0, 1)), (), ((0, 1),)), ((1,),))
        self.assertEqual(barred_cuts(plan_of((), ()), (), ((0, 1),)), ())

    def test_each_change_that_can_come_next_is_held_up(self):
        plan = plan_of((0,), (1,), (2,))
        self.assertEqual(barred_cuts(plan, (), ((0, 1),)), ((1, 0, 1),))
        self.assertEqual(barred_cuts(plan, (), ((0, 1), (0, 2))), ((1, 0, 0),))
        self.assertEqual(barred_cuts(plan, ((1, 2),), ((0, 1),)), ((1, 0, 0),))
        self.assertEqual(barred_cuts(plan, ((1, 2),), ((0, 2),)), ((1, 1, 0),))

    def test_a_drain_of_one_sign(self):
        self.assertEqual(barred_cuts(plan_of((0, 1, 2)), (), ((0, 1),)), ((1,),))
        self.assertEqual(barred_cuts(plan_of((0, 1, 2)), (), ((0, 2),)), ((2,),))
        self.assertEqual(barred_cuts(plan_of((0, 1, 2)), (), ((1, 2),)), ((2,),))
        self.assertEqual(barred_cuts(plan_of((3,), (0, 1)), (), ((0, 1),)), ((1, 1),))

    def test_what_is_entered_counts(self):
        # Once one change that drains 0 is in the cut, who is inside entered behind 0, and holds the other one not up.
        plan = plan_of((0,), (1,), (2,))
        self.assertNotIn((1, 1, 0), barred_cuts(plan, (), ((0, 1), (0, 2))))
        self.assertIn((1, 1, 0), barred_cuts(plan, (), ((0, 1), (1, 2))))
        self.assertEqual(barred_cuts(plan_of((0, 1, 2)), (), ((0, 1), (1, 2))), ((1,), (2,)))

    def test_names_that_the_plan_does_not_have(self):
        self.assertEqual(barred_cuts(RING, ((0, 9),), ((9, 1),)), ((1, 0),))
        self.assertEqual(barred_cuts(RING, (), ((8, 9),)), ())

    def test_plans_of_more_than_five_changes(self):
        self.assertEqual(barred_cuts(SIX, (), ((0, 3),)), tuple(barred_of(SIX, (), ((0, 3),))))
        plan = plan_of((0, 1), (2, 3), (4, 5), (6, 7))
        drains = ((1, 2), (3, 4), (5, 6))
        self.assertEqual(barred_cuts(plan, (), drains), tuple(barred_of(plan, (), drains)))

    def test_some_plans(self):
        many = set()
        for plan, waits, drains in some_cases(72, 500):
            if not has_round(plan, waits, drains):
                found = barred_cuts(plan, waits, drains)
                self.assertEqual(found, tuple(barred_of(plan, waits, drains)))
                self.assertTrue(is_deeply_tuple(found))
                many.add(min(len(found), 3))
        self.assertEqual(many, {0, 1, 2, 3})


class HolderCase(unittest.TestCase):
    def require_holder(self, plan, waits, drains):
        """Assert that holder tells a hold, as point 14 defines it, exactly if there is one; return what it tells."""
        told = holder(plan, waits, drains)
        self.assertIs(told is None, some_hold(plan, waits, drains) is None)
        if told is not None:
            self.require_hold(plan, waits, drains, told)
        return told

    def require_hold(self, plan, waits, drains, told):
        """Assert what point 14 says of a hold, part by part."""
        self.assertTrue(is_deeply_tuple(told) and len(told) == 3)
        versions, start, sights = told
        self.assertIn(versions, barred_cuts(plan, waits, drains))
        self.assertIn(start, plan[1])
        self.assertTrue(len(sights) <= 120)
        reads, end = walk(plan, start, sights)
        self.assertEqual((end[0], len(reads)), ("open", len(sights)))
        self.assertTrue(all(version <= versions[sign] for _, sign, version, _ in reads))
        self.assertIsNone(still_walk(plan, versions, end[1]))
        self.assertTrue(is_hold(plan, waits, drains, told))
        self.require_deeds(plan, waits, drains, told)

    def require_deeds(self, plan, waits, drains, told):
        """Assert that carry takes deeds of the hold."""
        versions, start, sights = told
        walkers = [walker for walker in walkers_in(plan, waits, drains, start, versions, sights)
                   if tuple(walker.sights) == sights]
        entered = entered_from(plan, waits, drains, versions)
        before = [name for name in walkers[0].done if name in held(plan, entered)]
        deeds = [("change", name) for name in before] + [("enter",)]
        self.assertEqual(carry(plan, waits, drains, start, tuple(deeds))[1::2], (entered, entered))
        self.assertTrue(is_below(entered, versions))


class HolderTest(HolderCase):
    def test_the_example(self):
        self.assertEqual(holder(RING, (), ((1, 0),))[:2], ((0, 1), 0))
        self.assertIsNone(holder(RING, (), ((0, 1),)))
        self.assertIsNone(holder(drains=((0, 1),), waits=(), plan=RING))
        self.assertEqual(holder(drains=((1, 0),), waits=(), plan=RING)[:2], ((0, 1), 0))
        self.require_holder(RING, (), ((1, 0),))

    def test_without_drains_nobody_holds_anything_up(self):
        plan = (RING[0], (0,), (("read", 0, (), 0),))
        self.assertIsNone(self.require_holder(plan, ((0, 1),), ()))
        self.assertIsNotNone(self.require_holder(plan, (), ((0, 1),)))

    def test_who_ends_while_the_versions_stand(self):
        nodes = (("read", 0, ((0, 0),), 1), ("read", 1, ((1, 2),), 1), ("end", "misled"))
        self.assertIsNone(self.require_holder((RING[0], (2,), nodes), (), ((0, 1),)))
        self.assertIsNotNone(self.require_holder((RING[0], (0,), nodes), (), ((0, 1),)))
        self.assertIsNotNone(self.require_holder((RING[0], (0, 2), nodes), (), ((0, 1),)))
        # While 0 has to wait for 1, a walker who reads the first sign goes round: nobody lets 1 be carried out twice.
        self.assertIsNotNone(self.require_holder((RING[0], (0,), nodes), (), ((1, 0),)))

    def test_a_walker_who_goes_round_only_behind_some_reads(self):
        # It goes round at node 2, to which it comes by old values alone.
        nodes = (("read", 0, ((0, 1),), 3), ("read", 0, ((0, 2),), 3), ("read", 0, ((1, 2),), 3), ("end", "good"))
        plan = (RING[0], (0,), nodes)
        told = self.require_holder(plan, (), ((0, 1),))
        self.assertEqual(told, ((1, 0), 0, (0, 0)))
        self.assertIsNone(self.require_holder(plan, (), ((1, 0),)))

    def test_it_entered_before_what_is_drained(self):
        # It goes round when 1 is done, if it has read the first sign's old value: it must have entered before 0.
        signs = ((0, ((0, 1),)), (0, ((1, 1),)), (0, ((2, 1),)))
        plan = (signs, (0,), (("read", 0, ((0, 1),), 2), ("read", 1, ((1, 1),), 2), ("end", "good")))
        waits = ((0, 1), (1, 2))
        self.assertEqual(self.require_holder(plan, waits, ((1, 2),)), ((1, 1, 0), 0, (0,)))
        self.assertEqual(barred_cuts(plan, waits, ((0, 1), (1, 2))), ((1, 0, 0), (1, 1, 0)))
        self.assertIsNone(self.require_holder(plan, waits, ((0, 1), (1, 2))))

    def test_it_sees_nothing_above_the_cut(self):
        # It goes round only behind a read of the second sign's new value, which the barred cut does not have.
        nodes = (("read", 1, ((1, 1),), 2), ("read", 0, ((1, 1),), 2), ("end", "good"))
        plan = (RING[0], (0,), nodes)
        self.assertEqual(barred_cuts(plan, (), ((0, 1),)), ((1, 0),))
        self.assertIsNone(self.require_holder(plan, (), ((0, 1),)))

    def test_a_ring_of_eleven_reads(self):
        nodes = tuple(("read", k % 2, ((1, 11),) if k == 5 else (), (k + 1) % 11) for k in range(11))
        plan = (RING[0], (3,), nodes + (("end", "good"),))
        self.assertIsNotNone(self.require_holder(plan, (), ((0, 1),)))
        # With the second sign read at every second node from the first on, only 1 being done lets nobody out.
        self.assertIsNone(self.require_holder(plan, (), ((1, 0),)))
        # The same ring, to which eleven reads of old values lead.
        nodes = tuple(("read", 0, ((0, k + 1),), 11) for k in range(10)) + (
            ("read", 0, ((1, 10),), 11), ("end", "good"))
        told = self.require_holder((RING[0], (0,), nodes), (), ((0, 1),))
        self.assertEqual(told, ((1, 0), 0, (0,) * 10))

    def test_a_drain_of_one_sign(self):
        plan = (((0, ((0, 1), (1, 2))),), (0,), (("read", 0, ((0, 1), (1, 1)), 2), ("read", 0, ((1, 1),), 2),
                                                 ("end", "good")))
        self.assertEqual(self.require_holder(plan, (), ((0, 1),))[0], (1,))

    def test_some_plans(self):
        chance, lengths = random.Random(73), set()
        for k in range(1500):
            plan, waits, drains = some_ruled(chance, 5, 5)
            if k % 3:
                plan = some_busy_house(chance, ((1, 1), (2, 1), (1, 1, 1), (2, 2), (2, 2, 1), (1, 1, 1, 1), (4,)))
            if not has_round(plan, waits, drains):
                told = self.require_holder(plan, waits, drains)
                lengths.add(None if told is None else min(len(told[2]), 2))
        self.assertEqual(lengths, {None, 0, 1, 2})

    def test_each_cut_of_some_plans(self):
        chance, found = random.Random(74), 0
        for _ in range(200):
            plan, waits, drains = some_ruled(chance, 4, 5)
            for cut in all_cuts(plan, waits, drains):
                wrong = (cut, plan[1][0], ())
                if is_hold(plan, waits, drains, wrong):
                    self.assertIsNotNone(holder(plan, waits, drains))
                    found += 1
        self.assertTrue(found > 3)


class LimitsTest(HolderCase):
    def test_six_changes_are_too_many(self):
        for plan in (SIX, plan_of((0, 1, 2, 3), (4,), (5,)), plan_of((0, 1, 2, 3), (4, 5, 6, 7))):
            self.assertEqual(raised(TooMany, holder, plan, (), ()).limit, 5)
            self.assertEqual(raised(TooMany, holder, plan, ((4, 0),), ((4, 3),)).limit, 5)
            self.assertIsNone(raised(TooMany, barred_cuts, plan, (), ()))
        self.assertIsNone(raised(TooMany, holder, plan_of((0, 1), (2, 3), (4,)), (), ()))

    def test_tangled_goes_first(self):
        for waits, drains, name in ((((1, 0),), ((0, 1),), 0), (((8, 7), (7, 8)), (), 7)):
            for call in (barred_cuts, holder):
                self.assertEqual(raised(Tangled, call, HOUSE, waits, drains).name, name)
                self.assertEqual(raised(Tangled, call, SIX, waits, drains).name, name)

    def test_some_rounds(self):
        for plan, waits, drains in some_cases(75, 80):
            tangled = has_round(plan, waits, drains)
            self.assertIs(raised(Tangled, barred_cuts, plan, waits, drains) is not None, tangled)
            if tangled:
                self.assertIsNotNone(raised(Tangled, holder, plan, waits, drains))

    def test_the_greatest_plans_take_seconds(self):
        before = time.perf_counter()
        signs = tuple((0, tuple((2 * k + j, j + 1) for j in range(size))) for k, size in enumerate((2, 1, 1, 1)))
        for back in (0, 5, 10):
            nodes = tuple(("read", k % 4, ((0, (k + 1) % 11), (1, back)), (k + 1) % 11) for k in range(11))
            plan = (signs, tuple(range(11)), nodes + (("end", "good"),))
            for drains in ((), ((0, 6),), ((0, 2), (2, 4), (4, 6)), ((0, 1), (0, 2), (0, 4), (0, 6))):
                holder(plan, (), drains)
        self.assertTrue(time.perf_counter() - before < 20)

    def test_the_arguments_are_the_same_afterwards(self):
        chance = random.Random(76)
        for _ in range(20):
            case = some_ruled(chance)
            before = copy.deepcopy(case)
            barred_cuts(*case)
            holder(*case)
            self.assertEqual(repr(case), repr(before))


if __name__ == "__main__":
    unittest.main()
