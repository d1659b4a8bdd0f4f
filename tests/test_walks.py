"""Walks: what a walker reads, where it goes, and how it ends."""

import copy
import itertools
import random
import unittest

from leavefirst.walks import still_walk, walk
from tests.helper import END, HOUSE, is_plain
from tests.naive import all_versions, some_house, walk_of

GOOD, MISLED = ("end", "good"), ("end", "misled")
# A walker goes from 0 to 1 and round between 1 and 2; the value 2 of the second sign leads out.
ROUND = (
    ((0, ((0, 1),)), (5, ((1, 6), (2, 2)))), (0,),
    (("read", 0, ((1, 3),), 1), ("read", 1, ((2, 4),), 2), ("read", 0, (), 1), MISLED, GOOD),
)
BARE = ((0, ()),)
LONG = ((7, ((4, 8), (5, 7), (6, 9), (7, 0))),)


class WalkTest(unittest.TestCase):
    def test_the_example(self):
        self.assertEqual(walk(HOUSE, 0, (0, 1)), (((0, 0, 0, 0), (1, 1, 1, 0)), MISLED))
        self.assertEqual(walk(sights=(0, 0), node=0, plan=HOUSE), (((0, 0, 0, 0), (1, 1, 0, 1)), GOOD))

    def test_branches_and_other(self):
        nodes = (("read", 0, ((0, 1), (7, 2), (9, 3)), 4), GOOD, MISLED, GOOD, MISLED)
        plan = (LONG, (0,), nodes)
        for version, value, node in ((0, 7, 2), (1, 8, 4), (2, 7, 2), (3, 9, 3), (4, 0, 1)):
            self.assertEqual(walk(plan, 0, (version,)), (((0, 0, version, value),), nodes[node]))
        self.assertEqual(walk((LONG, (0,), (("read", 0, (), 1), MISLED)), 0, (4,)), (((0, 0, 4, 0),), MISLED))

    def test_an_end_at_once(self):
        for sights in ((), (0,), (1, 4, 0)):
            self.assertEqual(walk(HOUSE, 3, sights), ((), GOOD))
            self.assertEqual(walk(HOUSE, 4, sights), ((), MISLED))

    def test_open_walks(self):
        self.assertEqual(walk(HOUSE, 0, ()), ((), ("open", 0)))
        self.assertEqual(walk(HOUSE, 2, ()), ((), ("open", 2)))
        self.assertEqual(walk(HOUSE, 0, (1,)), (((0, 0, 1, 1),), ("open", 2)))

    def test_the_last_sight_may_lead_to_an_end(self):
        self.assertEqual(walk(HOUSE, 1, (0,)), (((1, 1, 0, 1),), GOOD))
        self.assertEqual(walk(HOUSE, 1, (1,)), (((1, 1, 1, 0),), MISLED))

    def test_walks_that_go_astray(self):
        self.assertEqual(walk(HOUSE, 0, (2,)), ((), ("astray", 0)))
        self.assertEqual(walk(HOUSE, 0, (1, 2, 0)), (((0, 0, 1, 1),), ("astray", 2)))
        self.assertEqual(walk(HOUSE, 0, (1, 4)), (((0, 0, 1, 1),), ("astray", 2)))
        self.assertEqual(walk((((3, ()),), (0,), (("read", 0, (), 0),)), 0, (0, 0, 1)),
                         (((0, 0, 0, 3), (0, 0, 0, 3)), ("astray", 0)))
        self.assertEqual(walk((LONG, (0,), (("read", 0, (), 0),)), 0, (4, 5)), (((0, 0, 4, 0),), ("astray", 0)))
        self.assertEqual(walk(HOUSE, 0, (-1,)), ((), ("astray", 0)))

    def test_sights_that_are_left_over_mean_nothing(self):
        self.assertEqual(walk(HOUSE, 0, (0, 0, 4, 3, 2)), (((0, 0, 0, 0), (1, 1, 0, 1)), GOOD))
        self.assertEqual(walk(HOUSE, 0, (0, 1, 0)), (((0, 0, 0, 0), (1, 1, 1, 0)), MISLED))

    def test_four_hundred_sights_and_more(self):
        for many in (400, 401, 1500):
            reads, end = walk(ROUND, 0, (0,) * many)
            self.assertEqual((len(reads), end), (many, ("open", 1 + (many + 1) % 2)))
            self.assertEqual(reads[:4], ((0, 0, 0, 0), (1, 1, 0, 5), (2, 0, 0, 0), (1, 1, 0, 5)))
        sights = (0,) + (1, 0) * 199 + (2,)
        self.assertEqual((len(sights), walk(ROUND, 0, sights)[1]), (400, GOOD))
        self.assertEqual(len(walk(ROUND, 0, sights)[0]), 400)

    def test_walkers_who_go_round_see_any_versions(self):
        self.assertEqual(walk(ROUND, 1, (1, 1, 0, 0, 2)), (
            ((1, 1, 1, 6), (2, 0, 1, 1), (1, 1, 0, 5), (2, 0, 0, 0), (1, 1, 2, 2)), GOOD))

    def test_some_walks(self):
        chance, ends = random.Random(11), set()
        for _ in range(400):
            plan = some_house(chance, 6)
            for node in range(len(plan[2])):
                sights = tuple(chance.choice((0, 0, 0, 1, 1, 2, 3, 4)) for _ in range(chance.randint(0, 6)))
                told = walk(plan, node, sights)
                self.assertEqual(told, walk_of(plan, node, sights))
                self.assertTrue(is_plain(told))
                ends.add((told[1][0], len(told[0])))
        self.assertTrue({("end", 0), ("end", 3), ("open", 0), ("open", 3), ("astray", 0), ("astray", 3)} <= ends)


class StillWalkTest(unittest.TestCase):
    def test_the_example(self):
        self.assertEqual(still_walk(HOUSE, (1, 0, 1), 0), (2, "good"))
        self.assertEqual(still_walk(node=0, versions=(0, 1, 0), plan=HOUSE), (2, "misled"))

    def test_each_node_of_the_house(self):
        self.assertEqual([still_walk(HOUSE, (1, 0, 1), node) for node in range(5)],
                         [(2, "good"), (1, "good"), (1, "good"), (0, "good"), (0, "misled")])
        self.assertEqual([still_walk(HOUSE, (0, 1, 1), node) for node in range(5)],
                         [(2, "misled"), (1, "misled"), (1, "good"), (0, "good"), (0, "misled")])

    def test_whoever_goes_round_never_ends(self):
        self.assertIsNone(still_walk(ROUND, (0, 0), 1))
        self.assertIsNone(still_walk(ROUND, (1, 1), 2))
        self.assertIsNone(still_walk((BARE, (0,), (("read", 0, ((0, 0),), 1), GOOD)), (0,), 0))

    def test_a_round_behind_some_reads(self):
        self.assertIsNone(still_walk(ROUND, (0, 1), 0))
        nodes = tuple(("read", 0, (), k + 1) for k in range(11)) + (("read", 0, (), 11),)
        self.assertIsNone(still_walk((BARE, (0,), nodes), (0,), 0))
        nodes = nodes[:10] + (("read", 0, (), 11), ("read", 0, (), 10))
        self.assertIsNone(still_walk((BARE, (0,), nodes), (0,), 0))

    def test_as_many_reads_as_can_be(self):
        nodes = tuple(("read", 0, (), k + 1) for k in range(11)) + (MISLED,)
        self.assertEqual([still_walk((BARE, (0,), nodes), (0,), k) for k in range(12)],
                         [(11 - k, "misled") for k in range(12)])

    def test_the_greatest_version_of_a_sign(self):
        self.assertEqual(still_walk(ROUND, (0, 2), 0), (2, "good"))
        self.assertEqual(still_walk(ROUND, (1, 2), 0), (1, "misled"))
        plan = (LONG, (0,), (("read", 0, ((0, 1),), 2), GOOD, MISLED))
        self.assertEqual([still_walk(plan, (version,), 0)[1] for version in range(5)], ["misled"] * 4 + ["good"])

    def test_one_node(self):
        self.assertEqual(still_walk((BARE, (0,), END), (0,), 0), (0, "good"))
        self.assertIsNone(still_walk((BARE, (0,), (("read", 0, (), 0),)), (0,), 0))

    def test_some_still_walks(self):
        chance, told = random.Random(12), set()
        for _ in range(300):
            plan = some_house(chance, 5)
            for versions, node in itertools.product(all_versions(plan), range(len(plan[2]))):
                found = still_walk(plan, versions, node)
                self.assertEqual(found, self.still(plan, versions, node))
                self.assertTrue(found is None or is_plain(found))
                told.add(found)
        self.assertTrue({None, (0, "good"), (3, "good"), (3, "misled")} <= told)

    def still(self, plan, versions, node):
        """Return what still_walk should, by trying longer and longer walks."""
        sights = ()
        for many in range(30):
            reads, end = walk_of(plan, node, sights)
            if end[0] == "end":
                return (many, end[1])
            sights += (versions[plan[2][end[1]][1]],)
        return None


class ArgumentsTest(unittest.TestCase):
    def test_they_are_the_same_afterwards(self):
        chance = random.Random(13)
        for _ in range(20):
            plan, sights = some_house(chance), (0, 1, 0, 2)
            versions = (0,) * len(plan[0])
            before = copy.deepcopy((plan, sights, versions))
            walk(plan, 0, sights)
            still_walk(plan, versions, 0)
            self.assertEqual(repr((plan, sights, versions)), repr(before))


if __name__ == "__main__":
    unittest.main()
