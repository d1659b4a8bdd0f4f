"""Carrying out deeds with one walker: what is seen, what stands, and which deed is stuck."""

import copy
import random
import unittest

from leavefirst.entering import carry
from leavefirst.errors import Stuck, Tangled
from tests.helper import HOUSE, is_deeply_tuple, plan_names, plan_of, raised
from tests.naive import some_ruled, told_by

WAITS, DRAINS = ((2, 0),), ((0, 1),)
ENTER, LOOK = ("enter",), ("look",)
# The walker goes round for ever.
ROUND = (((3, ((0, 4), (1, 5), (2, 6), (3, 7))), (1, ((4, 2),))), (0,), (("read", 0, (), 1), ("read", 1, (), 0)))
# The walker reads the second one of four signs for ever.
SECOND_ROUND = (((0, ((0, 1), (1, 0))), (0, ((2, 1),)), (0, ((3, 1),)), (0, ((4, 1),))), (0,), (("read", 1, (), 0),))


def do(*names):
    """Return the deeds that carry out the changes of these names."""
    return tuple(("change", name) for name in names)


def stuck_at(plan, waits, drains, node, deeds):
    """Return the index of the deed that is stuck, or None."""
    error = raised(Stuck, carry, plan, waits, drains, node, deeds)
    return None if error is None else error.deed


class CarryTest(unittest.TestCase):
    def test_the_example(self):
        deeds = do(2, 0) + (ENTER, LOOK) + do(1)
        self.assertEqual(carry(HOUSE, WAITS, DRAINS, 0, deeds), ((1,), (1, 1, 1), 2, (1, 0, 1)))
        self.assertEqual(carry(deeds=deeds[:2], node=3, drains=(), waits=(), plan=HOUSE), ((), (1, 0, 1), None, None))

    def test_deeds_that_end_before_entering(self):
        self.assertEqual(carry(HOUSE, WAITS, DRAINS, 0, ()), ((), (0, 0, 0), None, None))
        self.assertEqual(carry(HOUSE, WAITS, DRAINS, 0, do(2)), ((), (0, 0, 1), None, None))
        self.assertEqual(carry(HOUSE, WAITS, DRAINS, 4, do(2, 0, 1)), ((), (1, 1, 1), None, None))

    def test_entering_and_no_look(self):
        self.assertEqual(carry(HOUSE, (), (), 0, do(1) + (ENTER,)), ((), (0, 1, 0), 0, (0, 1, 0)))
        self.assertEqual(carry(HOUSE, (), (), 2, (ENTER,) + do(1)), ((), (0, 1, 0), 2, (0, 0, 0)))

    def test_looks_see_what_stands(self):
        self.assertEqual(carry(HOUSE, (), (), 0, (ENTER, LOOK) + do(1) + (LOOK,)), ((0, 1), (0, 1, 0), 4, (0, 0, 0)))
        self.assertEqual(carry(HOUSE, (), (), 0, (ENTER,) + do(0, 2) + (LOOK, LOOK)),
                         ((1, 1), (1, 0, 1), 3, (0, 0, 0)))
        self.assertEqual(carry(ROUND, (), (), 1, do(0, 1) + (ENTER, LOOK) + do(2, 4) + (LOOK, LOOK, LOOK)),
                         ((0, 3, 1, 3), (3, 1), 1, (2, 0)))

    def test_five_hundred_deeds(self):
        deeds = do(0) + (ENTER,) + (LOOK,) * 247 + do(1) + (LOOK,) * 250
        self.assertEqual(len(deeds), 500)
        sights, versions, place, entered = carry(ROUND, (), (), 0, deeds)
        self.assertEqual((len(sights), versions, place, entered), (497, (2, 0), 1, (1, 0)))
        self.assertEqual(sights[:2] + sights[245:250], (1, 0, 0, 1, 0, 2, 0))
        self.assertEqual(stuck_at(ROUND, (), (), 0, deeds[:499] + do(0)), 499)
        self.assertEqual(len(carry(ROUND, (), (), 0, deeds + (LOOK,) * 300)[0]), 797)


class StuckTest(unittest.TestCase):
    def test_looks_before_entering_and_at_an_end(self):
        self.assertEqual(stuck_at(HOUSE, (), (), 0, (LOOK,)), 0)
        self.assertEqual(stuck_at(HOUSE, (), (), 0, do(0) + (LOOK, ENTER)), 1)
        self.assertEqual(stuck_at(HOUSE, (), (), 0, (ENTER, LOOK, LOOK, LOOK)), 3)
        self.assertEqual(stuck_at(HOUSE, (), (), 3, (ENTER, LOOK)), 1)

    def test_entering_twice(self):
        self.assertEqual(stuck_at(HOUSE, (), (), 0, (ENTER, ENTER)), 1)
        self.assertEqual(stuck_at(HOUSE, (), (), 0, (ENTER, LOOK, LOOK, ENTER)), 3)
        self.assertEqual(stuck_at(HOUSE, (), (), 4, (ENTER,) + do(1) + (ENTER,)), 2)

    def test_a_change_that_the_plan_does_not_have(self):
        self.assertEqual(stuck_at(HOUSE, (), (), 0, do(3)), 0)
        self.assertEqual(stuck_at(HOUSE, ((0, 9),), (), 0, do(0, 9)), 1)
        self.assertEqual(stuck_at(HOUSE, (), (), 0, do(0, 77)), 1)

    def test_a_change_that_is_done(self):
        self.assertEqual(stuck_at(HOUSE, (), (), 0, do(0, 1, 0)), 2)
        self.assertEqual(stuck_at(plan_of((0, 1)), (), (), 0, do(0, 1, 0)), 2)

    def test_a_change_that_waits(self):
        self.assertEqual(stuck_at(HOUSE, WAITS, (), 0, do(0)), 0)
        self.assertEqual(stuck_at(HOUSE, WAITS, (), 0, do(1, 0, 2)), 1)
        self.assertEqual(stuck_at(HOUSE, (), ((0, 1),), 0, do(1)), 0)
        self.assertEqual(stuck_at(plan_of((3, 1)), (), (), 0, do(1)), 0)
        self.assertEqual(stuck_at(HOUSE, ((2, 9), (9, 0)), (), 0, do(1, 0)), 1)
        self.assertIsNone(stuck_at(HOUSE, ((2, 9), (9, 0)), (), 0, do(1, 2, 0)))

    def test_drains_while_the_walker_is_inside(self):
        self.assertEqual(stuck_at(HOUSE, (), DRAINS, 0, (ENTER,) + do(0, 1)), 2)
        self.assertEqual(stuck_at(HOUSE, (), DRAINS, 0, (ENTER, LOOK) + do(0, 1)), 3)
        self.assertEqual(stuck_at(HOUSE, WAITS, DRAINS, 0, do(2) + (ENTER,) + do(0, 1)), 3)
        # 2 is before 0, so 1 drains 2, too; so does what waits for 1.
        self.assertEqual(stuck_at(HOUSE, WAITS, DRAINS, 0, (ENTER,) + do(2, 0, 1)), 3)
        self.assertEqual(stuck_at(SECOND_ROUND, ((2, 0), (1, 4)), ((0, 1),), 0, do(2) + (ENTER,) + do(0, 1)), 3)
        self.assertEqual(stuck_at(SECOND_ROUND, ((1, 4),), ((0, 3),), 0, do(0) + (ENTER,) + do(1, 4, 3)), None)
        self.assertEqual(stuck_at(SECOND_ROUND, ((3, 4),), ((0, 3),), 0, do(2) + (ENTER,) + do(0, 1, 3)), 4)

    def test_drains_of_one_sign(self):
        self.assertEqual(stuck_at(ROUND, (), ((0, 2),), 0, (ENTER,) + do(0, 1, 2)), 3)
        self.assertEqual(stuck_at(ROUND, (), ((0, 2),), 0, (ENTER,) + do(0, 1, 4, 2)), 4)
        self.assertEqual(stuck_at(ROUND, (), ((0, 2),), 0, do(0) + (ENTER,) + do(1, 2, 3)), None)

    def test_drains_after_the_walker_has_ended(self):
        self.assertIsNone(stuck_at(HOUSE, (), DRAINS, 0, (ENTER, LOOK, LOOK) + do(0, 1)))
        self.assertIsNone(stuck_at(HOUSE, (), DRAINS, 0, (ENTER, LOOK) + do(0) + (LOOK,) + do(1)))
        self.assertEqual(carry(HOUSE, (), DRAINS, 0, (ENTER,) + do(0) + (LOOK,) + do(2) + (LOOK,) + do(1)),
                         ((1, 1), (1, 1, 1), 3, (0, 0, 0)))

    def test_drains_if_it_entered_afterwards(self):
        self.assertIsNone(stuck_at(HOUSE, (), DRAINS, 0, do(0) + (ENTER,) + do(1)))
        self.assertIsNone(stuck_at(HOUSE, (), DRAINS, 0, do(0) + (ENTER, LOOK) + do(1)))
        self.assertIsNone(stuck_at(HOUSE, (), DRAINS, 0, do(0, 1) + (ENTER, LOOK)))

    def test_drains_before_it_has_entered(self):
        self.assertIsNone(stuck_at(HOUSE, (), DRAINS, 0, do(0, 1)))

    def test_whoever_enters_at_an_end_is_never_inside(self):
        self.assertEqual(carry(HOUSE, WAITS, DRAINS, 4, (ENTER,) + do(2, 0, 1)), ((), (1, 1, 1), 4, (0, 0, 0)))

    def test_the_first_deed_that_is_stuck_is_told(self):
        self.assertEqual(stuck_at(HOUSE, WAITS, DRAINS, 0, do(2) + (LOOK,) + do(9, 1)), 1)
        self.assertEqual(stuck_at(HOUSE, WAITS, DRAINS, 0, (ENTER, ENTER, LOOK, LOOK, LOOK)), 1)

    def test_tangled_goes_first(self):
        for waits, drains, name in ((((1, 0),), DRAINS, 0), (((8, 7), (7, 8)), (), 7)):
            self.assertEqual(raised(Tangled, carry, HOUSE, waits, drains, 0, (LOOK,)).name, name)
            self.assertEqual(raised(Tangled, carry, HOUSE, waits, drains, 0, ()).name, name)


class SomeDeedsTest(unittest.TestCase):
    def some_deeds(self, chance, plan):
        """Return deeds of which a few at least can often be carried out."""
        among = list(do(*plan_names(plan), 9)) * 2 + [ENTER, LOOK, LOOK, LOOK, LOOK]
        return tuple(chance.choice(among) for _ in range(chance.randint(0, 9)))

    def test_some_deeds(self):
        chance, ways = random.Random(31), set()
        for _ in range(3000):
            plan, waits, drains = some_ruled(chance, 5)
            node, deeds = chance.randrange(len(plan[2])), self.some_deeds(chance, plan)
            stuck, told = told_by(plan, waits, drains, node, deeds)
            self.assertEqual(stuck_at(plan, waits, drains, node, deeds), stuck)
            found = carry(plan, waits, drains, node, deeds[:stuck])
            self.assertEqual(found, told)
            self.assertTrue(is_deeply_tuple(tuple(part for part in found if part is not None)))
            ways.add((stuck, len(told[0])))
        self.assertTrue({(None, 0), (None, 2), (0, 0), (3, 1), (4, 2)} <= ways, ways)

    def test_deeds_that_go_on_as_long_as_they_can(self):
        chance, most = random.Random(32), 0
        for _ in range(200):
            plan, waits, drains = some_ruled(chance, 8)
            node, deeds = chance.randrange(len(plan[2])), ()
            for _ in range(25):
                more = deeds + (chance.choice((*do(*plan_names(plan)), ENTER, LOOK, LOOK)),)
                stuck, told = told_by(plan, waits, drains, node, more)
                self.assertEqual(stuck_at(plan, waits, drains, node, more), stuck)
                if stuck is None:
                    deeds = more
                    self.assertEqual(carry(plan, waits, drains, node, deeds), told)
            most = max(most, len(deeds))
        self.assertTrue(most > 10)

    def test_the_arguments_are_the_same_afterwards(self):
        chance = random.Random(33)
        for _ in range(40):
            plan, waits, drains = some_ruled(chance)
            case = (plan, waits, drains, 0, self.some_deeds(chance, plan))
            before = copy.deepcopy(case)
            stuck_at(*case)
            self.assertEqual(repr(case), repr(before))


if __name__ == "__main__":
    unittest.main()
