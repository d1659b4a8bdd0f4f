"""States: where they lead, which are reached, and whether somebody is misled."""

import copy
import itertools
import random
import time
import unittest

from leavefirst.entering import is_passable
from leavefirst.errors import Tangled, TooMany
from leavefirst.reached import bewildering, is_calm, leads, reached_states
from leavefirst.walks import walk
from tests.helper import HOUSE, has_round, is_deeply_tuple, plan_of, raised, some_cases
from tests.naive import all_versions, is_state, led_to, some_ruled, states_reached, walk_of

WAITS, DRAINS = ((2, 0),), ((0, 1),)
MISLED = ("end", "misled")
# The walker goes round for ever and reads both signs in turn.
ROUND = (((3, ((0, 4), (1, 5))), (1, ((3, 2), (4, 3)))), (0,), (("read", 0, (), 1), ("read", 1, (), 0)))
SIX = plan_of((0, 1), (2, 3), (4, 5))


class LeadsTest(unittest.TestCase):
    def test_the_example(self):
        self.assertEqual(leads(HOUSE, WAITS, DRAINS, (0, (0, 0, 0), (0, 0, 0))),
                         ((1, (0, 0, 0), (0, 0, 0)), (2, (0, 0, 0), (1, 0, 1))))
        self.assertEqual(leads(state=(0, (1, 0, 1), (1, 0, 1)), drains=(), waits=(), plan=HOUSE),
                         ((2, (1, 0, 1), (1, 0, 1)),))

    def test_at_an_end_a_state_leads_to_none(self):
        for node in (3, 4):
            self.assertEqual(leads(HOUSE, WAITS, DRAINS, (node, (0, 0, 0), (1, 0, 1))), ())

    def test_what_is_drained_does_not_come(self):
        self.assertEqual(leads(HOUSE, (), DRAINS, (1, (0, 0, 0), (0, 0, 0))), ((3, (0, 0, 0), (0, 0, 0)),))
        self.assertEqual(leads(HOUSE, (), DRAINS, (1, (1, 0, 0), (1, 0, 0))),
                         ((3, (1, 0, 0), (1, 0, 0)), (4, (1, 0, 0), (1, 1, 0))))
        self.assertEqual(leads(HOUSE, (), (), (1, (0, 0, 0), (0, 0, 0))),
                         ((3, (0, 0, 0), (0, 0, 0)), (4, (0, 0, 0), (0, 1, 0))))

    def test_each_version_from_the_one_that_stands(self):
        here = (0, 0)
        self.assertEqual(leads(ROUND, (), (), (0, here, here)), tuple((1, here, (k, 0)) for k in range(3)))
        self.assertEqual(leads(ROUND, (), (), (0, here, (1, 2))), ((1, here, (1, 2)), (1, here, (2, 2))))
        self.assertEqual(leads(ROUND, (), (), (0, here, (2, 1))), ((1, here, (2, 1)),))

    def test_versions_are_raised_to_what_a_version_needs(self):
        here = (0, 0)
        self.assertEqual(leads(ROUND, ((3, 1),), (), (0, here, here)),
                         ((1, here, (0, 0)), (1, here, (1, 0)), (1, here, (2, 1))))
        self.assertEqual(leads(ROUND, ((3, 1),), (), (0, here, (0, 2))),
                         ((1, here, (0, 2)), (1, here, (1, 2)), (1, here, (2, 2))))

    def test_they_ascend_by_node_first(self):
        plan = (((1, ((0, 0),)),), (0,), (("read", 0, ((0, 1), (1, 2)), 0), ("end", "good"), ("end", "good")))
        self.assertEqual(leads(plan, (), (), (0, (0,), (0,))), ((1, (0,), (1,)), (2, (0,), (0,))))

    def test_plans_of_more_than_five_changes(self):
        plan = (SIX[0], (0,), (("read", 1, (), 0),))
        here = (0, 0, 0)
        self.assertEqual(leads(plan, ((5, 3),), (), (0, here, here)),
                         ((0, here, here), (0, here, (0, 1, 0)), (0, here, (0, 2, 2))))

    def test_each_state_of_some_plans(self):
        chance, many = random.Random(51), set()
        for _ in range(40):
            plan, waits, drains = some_ruled(chance, 4, 3)
            rows = all_versions(plan)
            for state in itertools.product(range(len(plan[2])), rows, rows):
                if is_state(plan, waits, drains, state):
                    found = leads(plan, waits, drains, state)
                    self.assertEqual(found, tuple(led_to(plan, waits, drains, state)))
                    self.assertTrue(is_deeply_tuple(found))
                    many.add(len(found))
        self.assertTrue({0, 1, 2, 3} <= many)


class ReachedTest(unittest.TestCase):
    def test_the_house(self):
        found = reached_states(HOUSE, WAITS, DRAINS)
        self.assertEqual(found, tuple(states_reached(HOUSE, WAITS, DRAINS)))
        self.assertIn((0, (1, 0, 1), (1, 0, 1)), found)
        self.assertIn((3, (0, 0, 0), (1, 0, 1)), found)
        self.assertNotIn((0, (0, 0, 0), (0, 0, 1)), found)
        self.assertNotIn((4, (0, 0, 0), (0, 0, 0)), found)
        self.assertEqual(reached_states(drains=DRAINS, waits=WAITS, plan=HOUSE), found)

    def test_each_start_and_each_cut(self):
        plan = (((0, ((0, 1),)), (0, ((1, 1),))), (1, 2), (("end", "misled"), ("end", "good"), ("end", "good")))
        self.assertEqual(reached_states(plan, ((0, 1),), ()),
                         tuple((start, cut, cut) for start in (1, 2) for cut in ((0, 0), (1, 0), (1, 1))))

    def test_a_start_that_is_an_end(self):
        plan = (((0, ()),), (0, 1), (MISLED, ("end", "good")))
        self.assertEqual(reached_states(plan, (), ()), ((0, (0,), (0,)), (1, (0,), (0,))))

    def test_some_plans(self):
        chance, sizes = random.Random(52), set()
        for _ in range(120):
            plan, waits, drains = some_ruled(chance, 5, 4)
            found = reached_states(plan, waits, drains)
            self.assertEqual(found, tuple(states_reached(plan, waits, drains)))
            self.assertTrue(is_deeply_tuple(found))
            sizes.add(min(len(found) // 20, 3))
        self.assertEqual(sizes, {0, 1, 2, 3})


class CalmCase(unittest.TestCase):
    def require_bewildering(self, plan, waits, drains):
        """Assert that is_calm and bewildering tell the same, and the latter a walk as the interface tells."""
        told = bewildering(plan, waits, drains)
        self.assertIs(is_calm(plan, waits, drains), told is None)
        if told is not None:
            self.assertTrue(is_deeply_tuple(told) and len(told) == 2)
            start, sights = told
            self.assertIn(start, plan[1])
            reads, end = walk_of(plan, start, sights)
            self.assertEqual((end, len(reads)), (MISLED, len(sights)))
            self.assertTrue(len(sights) <= 120)
            self.assertIs(is_passable(plan, waits, drains, start, sights), True)
        return told


class CalmTest(CalmCase):
    def test_the_example(self):
        self.assertIs(is_calm(HOUSE, WAITS, DRAINS), True)
        self.assertIs(is_calm(HOUSE, WAITS, ()), False)
        self.assertIsNone(self.require_bewildering(HOUSE, WAITS, DRAINS))
        self.assertEqual(self.require_bewildering(HOUSE, WAITS, ()), (0, (0, 1)))
        self.assertEqual(self.require_bewildering(HOUSE, (), DRAINS), (0, (1, 0)))
        self.assertIs(is_calm(drains=DRAINS, waits=WAITS, plan=HOUSE), True)
        self.assertIsNone(bewildering(drains=DRAINS, waits=WAITS, plan=HOUSE))

    def test_a_start_that_is_a_misled_end(self):
        plan = (((0, ()),), (1,), (("end", "good"), MISLED))
        self.assertEqual(self.require_bewildering(plan, (), ()), (1, ()))
        plan = (((0, ()),), (0,), (("end", "good"), MISLED))
        self.assertIsNone(self.require_bewildering(plan, (), ()))

    def test_only_starts_count(self):
        plan = (((0, ()),), (0,), (("read", 0, (), 1), ("end", "good"), ("read", 0, (), 3), MISLED))
        self.assertIs(is_calm(plan, (), ()), True)
        self.assertEqual(self.require_bewildering((plan[0], (0, 2), plan[2]), (), ()), (2, (0,)))

    def test_every_cut_counts(self):
        plan = (((0, ((0, 1), (1, 0))),), (0,), (("read", 0, ((1, 1),), 2), MISLED, ("end", "good")))
        self.assertEqual(self.require_bewildering(plan, (), ()), (0, (1,)))

    def test_a_long_walk(self):
        # Each of the eleven reads but the last goes on by an old value, and else begins anew.
        nodes = tuple(("read", k & 1, ((0, k + 1),), 0) for k in range(10)) + (("read", 0, ((1, 11),), 0), MISLED)
        plan = (((0, ((0, 1),)), (0, ((1, 1),))), (0,), nodes)
        self.assertEqual(self.require_bewildering(plan, (), ()), (0, (0,) * 10 + (1,)))
        self.assertEqual(self.require_bewildering(plan, (), ((1, 0),)), None)

    def test_some_plans(self):
        chance, told = random.Random(53), []
        for _ in range(600):
            plan, waits, drains = some_ruled(chance, 5, 7)
            told.append(self.require_bewildering(plan, waits, drains))
            misled = [state for state in states_reached(plan, waits, drains) if plan[2][state[0]] == MISLED]
            self.assertIs(told[-1] is None, not misled)
        lengths = {None if found is None else len(found[1]) for found in told}
        self.assertTrue({None, 0, 1, 2, 3} <= lengths, lengths)

    def test_by_trying_walks(self):
        chance, kinds = random.Random(54), set()
        for _ in range(60):
            plan, waits, drains = some_ruled(chance, 4, 4)
            tried = [(start, sights) for start in plan[1] for many in range(6)
                     for sights in itertools.product(range(3), repeat=many)]
            misled = any(walk(plan, *case)[1] == MISLED and is_passable(plan, waits, drains, *case) for case in tried)
            calm = is_calm(plan, waits, drains)
            self.assertFalse(calm and misled)
            kinds.add((calm, misled))
        self.assertTrue({(True, False), (False, True)} <= kinds)


class LimitsTest(CalmCase):
    def test_six_changes_are_too_many(self):
        for call in (reached_states, is_calm, bewildering):
            for plan in (SIX, plan_of((0, 1, 2, 3), (4,), (5,)), plan_of((0, 1, 2, 3), (4, 5, 6, 7))):
                self.assertEqual(raised(TooMany, call, plan, (), ()).limit, 5)
                self.assertEqual(raised(TooMany, call, plan, ((4, 0),), ((4, 3),)).limit, 5)
            self.assertIsNone(raised(TooMany, call, plan_of((0, 1), (2, 3), (4,)), (), ()))

    def test_tangled_goes_first(self):
        state = (0, (0, 0, 0), (0, 0, 0))
        for waits, drains, name in ((((1, 0),), ((0, 1),), 0), (((8, 7), (7, 8)), (), 7)):
            for call in (reached_states, is_calm, bewildering):
                self.assertEqual(raised(Tangled, call, HOUSE, waits, drains).name, name)
                self.assertEqual(raised(Tangled, call, SIX, waits, drains).name, name)
            self.assertEqual(raised(Tangled, leads, HOUSE, waits, drains, state).name, name)
            self.assertEqual(raised(Tangled, leads, SIX, waits, drains, state).name, name)

    def test_some_rounds(self):
        for plan, waits, drains in some_cases(55, 80):
            nothing = (0,) * len(plan[0])
            tangled = has_round(plan, waits, drains)
            self.assertIs(raised(Tangled, leads, plan, waits, drains, (0, nothing, nothing)) is not None, tangled)
            if tangled:
                for call in (reached_states, is_calm, bewildering):
                    self.assertIsNotNone(raised(Tangled, call, plan, waits, drains))

    def test_the_greatest_plans_take_seconds(self):
        chance, before = random.Random(56), time.perf_counter()
        for sizes in ((2, 1, 1, 1), (1, 1, 1, 2), (3, 2, 0, 0), (2, 2, 1, 0)):
            names = iter(range(5))
            signs = tuple((0, tuple((next(names), k + 1) for k in range(size))) for size in sizes)
            nodes = tuple(("read", chance.randrange(4), tuple((value, chance.randrange(12)) for value in range(3)), k)
                          for k in range(11)) + (MISLED,)
            plan = (signs, tuple(range(11)), nodes)
            self.assertTrue(len(reached_states(plan, (), ())) > 200)
            self.require_bewildering(plan, (), ())
            self.require_bewildering(plan, (), ((0, 4),))
        self.assertTrue(time.perf_counter() - before < 20)

    def test_the_arguments_are_the_same_afterwards(self):
        chance = random.Random(57)
        for _ in range(20):
            plan, waits, drains = some_ruled(chance)
            case = (plan, waits, drains, (0, (0,) * len(plan[0]), (0,) * len(plan[0])))
            before = copy.deepcopy(case)
            leads(*case)
            for call in (reached_states, is_calm, bewildering):
                call(*case[:3])
            self.assertEqual(repr(case), repr(before))


if __name__ == "__main__":
    unittest.main()
