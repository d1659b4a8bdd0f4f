"""Cuts: which there are, the least one with a version, and the one that each enters."""

import copy
import random
import unittest

from leavefirst.entering import cuts, entered_by, needs
from leavefirst.errors import Tangled
from tests.helper import HOUSE, has_round, is_deeply_tuple, plan_of, raised, some_cases
from tests.naive import all_cuts, all_versions, entered_from, is_below, some_ruled

WAITS, DRAINS = ((2, 0),), ((0, 1),)
TWO = plan_of((0, 1), (2, 3))


class CutsTest(unittest.TestCase):
    def test_the_example(self):
        self.assertEqual(cuts(HOUSE, WAITS, DRAINS), ((0, 0, 0), (0, 0, 1), (1, 0, 1), (1, 1, 1)))
        self.assertEqual(cuts(drains=(), waits=WAITS, plan=HOUSE)[:3], ((0, 0, 0), (0, 0, 1), (0, 1, 0)))

    def test_no_waits_and_no_drains(self):
        for plan in (HOUSE, TWO, plan_of(()), plan_of((), (5,)), plan_of((3, 1, 2, 0), (4, 5, 6, 7))):
            self.assertEqual(cuts(plan, (), ()), tuple(all_versions(plan)))
        self.assertEqual(cuts(plan_of(()), (), ()), ((0,),))
        self.assertEqual(len(cuts(plan_of((0, 1), (2, 3), (4, 5), (6, 7)), (), ())), 81)

    def test_waits_and_drains_alike_keep_an_order(self):
        some = ((0, 0), (1, 0), (1, 1), (1, 2), (2, 0), (2, 1), (2, 2))
        self.assertEqual(cuts(TWO, ((0, 2),), ()), some)
        self.assertEqual(cuts(TWO, (), ((0, 2),)), some)
        self.assertEqual(cuts(TWO, (), ((1, 2),)), ((0, 0), (1, 0), (2, 0), (2, 1), (2, 2)))

    def test_by_way_of_names_that_the_plan_does_not_have(self):
        few = ((0, 0), (1, 0), (2, 0), (2, 1), (2, 2))
        self.assertEqual(cuts(TWO, ((1, 9),), ((9, 2),)), few)
        self.assertEqual(cuts(TWO, ((1, 8), (8, 9), (9, 2)), ()), few)
        self.assertEqual(cuts(TWO, ((1, 9),), ((8, 2),)), tuple(all_versions(TWO)))

    def test_some_cuts(self):
        chance = random.Random(21)
        for _ in range(200):
            plan, waits, drains = some_ruled(chance, 6, 1)
            found = cuts(plan, waits, drains)
            self.assertEqual(found, tuple(all_cuts(plan, waits, drains)))
            self.assertTrue(is_deeply_tuple(found))


class NeedsTest(unittest.TestCase):
    def test_the_example(self):
        self.assertEqual(needs(HOUSE, WAITS, DRAINS, 0, 1), (1, 0, 1))
        self.assertEqual(needs(version=1, sign=1, drains=DRAINS, waits=WAITS, plan=HOUSE), (1, 1, 1))

    def test_version_0_needs_nothing(self):
        for sign in (0, 1, 2):
            self.assertEqual(needs(HOUSE, WAITS, DRAINS, sign, 0), (0, 0, 0))
        self.assertEqual(needs(plan_of(()), (), (), 0, 0), (0,))

    def test_no_waits_and_no_drains(self):
        self.assertEqual(needs(TWO, (), (), 1, 2), (0, 2))
        self.assertEqual(needs(plan_of((3, 1, 2, 0)), (), (), 0, 3), (3,))

    def test_by_way_of_names_that_the_plan_does_not_have(self):
        self.assertEqual(needs(TWO, ((0, 9),), ((9, 3),), 1, 2), (1, 2))
        self.assertEqual(needs(TWO, ((0, 9),), ((9, 3),), 1, 1), (0, 1))

    def test_some_needs(self):
        chance, higher = random.Random(22), 0
        for _ in range(150):
            plan, waits, drains = some_ruled(chance, 6, 1)
            among = all_cuts(plan, waits, drains)
            for sign, (_, changes) in enumerate(plan[0]):
                for version in range(len(changes) + 1):
                    found = needs(plan, waits, drains, sign, version)
                    have_it = [cut for cut in among if cut[sign] == version]
                    self.assertIn(found, have_it)
                    self.assertTrue(all(is_below(found, cut) for cut in have_it))
                    self.assertTrue(is_deeply_tuple(found))
                    higher += sum(found) > version
        self.assertTrue(higher > 30, higher)


class EnteredByTest(unittest.TestCase):
    def test_the_example(self):
        self.assertEqual(entered_by(HOUSE, WAITS, DRAINS, (1, 1, 1)), (1, 0, 1))
        self.assertEqual(entered_by(versions=(1, 0, 1), drains=DRAINS, waits=WAITS, plan=HOUSE), (0, 0, 0))

    def test_without_drains_nothing_is_entered(self):
        for waits in ((), ((0, 2),), ((0, 2), (1, 3))):
            for cut in cuts(TWO, waits, ()):
                self.assertEqual(entered_by(TWO, waits, (), cut), (0, 0))

    def test_what_is_ahead_of_the_drain_is_entered_too(self):
        self.assertEqual(entered_by(TWO, (), ((1, 2),), (2, 1)), (2, 0))
        self.assertEqual(entered_by(TWO, (), ((1, 2),), (2, 0)), (0, 0))
        self.assertEqual(entered_by(TWO, ((3, 0),), ((0, 1),), (2, 2)), (1, 2))
        self.assertEqual(entered_by(TWO, ((3, 0),), ((0, 1),), (1, 2)), (0, 0))

    def test_what_is_behind_the_drain_enters_too(self):
        plan = plan_of((0,), (1,), (2,))
        self.assertEqual(entered_by(plan, ((1, 2),), ((0, 1),), (1, 1, 1)), (1, 0, 0))
        self.assertEqual(entered_by(plan, ((0, 1),), ((1, 2),), (1, 1, 0)), (0, 0, 0))
        self.assertEqual(entered_by(plan, ((0, 1),), ((1, 2),), (1, 1, 1)), (1, 1, 0))

    def test_drained_pairs_of_one_sign(self):
        plan = plan_of((0, 1, 2, 3), (4,))
        self.assertEqual([entered_by(plan, (), ((1, 2),), (version, 1)) for version in range(5)],
                         [(0, 0), (0, 0), (0, 0), (2, 0), (2, 0)])
        self.assertEqual([entered_by(plan, (), ((0, 3),), (version, 0)) for version in range(5)],
                         [(0, 0), (0, 0), (0, 0), (0, 0), (1, 0)])

    def test_by_way_of_names_that_the_plan_does_not_have(self):
        self.assertEqual(entered_by(TWO, ((0, 8), (9, 2)), ((8, 9),), (1, 1)), (1, 0))
        self.assertEqual(entered_by(TWO, ((0, 8), (9, 2)), ((8, 9),), (2, 0)), (0, 0))
        self.assertEqual(entered_by(TWO, ((0, 8),), ((8, 9),), (2, 2)), (0, 0))

    def test_some_entered_cuts(self):
        chance, seen = random.Random(23), set()
        for _ in range(150):
            plan, waits, drains = some_ruled(chance, 6, 1)
            for cut in all_cuts(plan, waits, drains):
                found = entered_by(plan, waits, drains, cut)
                self.assertEqual(found, entered_from(plan, waits, drains, cut))
                self.assertTrue(is_deeply_tuple(found))
                seen.add(sum(found))
        self.assertTrue({0, 1, 2, 3} <= seen)


class RoundsTest(unittest.TestCase):
    def test_some_rounds(self):
        for plan, waits, drains in some_cases(24, 100):
            nothing = (0,) * len(plan[0])
            calls = ((needs, plan, waits, drains, 0, 0), (cuts, plan, waits, drains),
                     (entered_by, plan, waits, drains, nothing))
            for call in calls:
                self.assertIs(raised(Tangled, *call) is not None, has_round(plan, waits, drains))

    def test_the_least_name_also_where_the_plan_does_not_have_it(self):
        for waits, drains, name in ((((1, 2),), ((2, 0),), 0), (((8, 9), (9, 8)), (), 8), (((2, 9), (9, 3)), ((3, 2),), 2),
                                    (((3, 5),), ((5, 2),), 2), (((6, 7),), ((4, 6), (7, 4)), 4)):
            self.assertEqual(raised(Tangled, needs, TWO, waits, drains, 1, 1).name, name)
            self.assertEqual(raised(Tangled, cuts, TWO, waits, drains).name, name)
            self.assertEqual(raised(Tangled, entered_by, TWO, waits, drains, (2, 2)).name, name)


class ArgumentsTest(unittest.TestCase):
    def test_they_are_the_same_afterwards(self):
        chance = random.Random(25)
        for _ in range(20):
            case = (*some_ruled(chance), (0, 0, 0))
            before = copy.deepcopy(case)
            needs(*case[:3], 0, 0)
            cuts(*case[:3])
            entered_by(*case[:3], (0,) * len(case[0][0]))
            self.assertEqual(repr(case), repr(before))


if __name__ == "__main__":
    unittest.main()
