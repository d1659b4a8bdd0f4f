"""The two clauses of a walk, and which regimes they tell of."""

import copy
import random
import unittest

from leavefirst.clauses import two_clauses
from leavefirst.entering import is_passable
from leavefirst.errors import AstrayWalk, Backward
from leavefirst.regimes import regime_of
from tests.helper import HOUSE, is_deeply_tuple, raised
from tests.naive import clauses_of, some_ruled, walk_of

# The walker goes round for ever and reads all signs in turn.
ROUND = (((3, ((0, 4), (1, 5), (2, 6), (9, 7))), (1, ((3, 2), (4, 3))), (0, ((5, 1),))), (0,),
         (("read", 0, (), 1), ("read", 1, (), 2), ("read", 2, (), 0)))
# The walker goes round for ever and reads one sign only.
LONE = (((0, ((3, 1), (1, 0), (2, 1), (0, 0))),), (0,), (("read", 0, (), 0),))


def astray_at(plan, node, sights):
    error = raised(AstrayWalk, two_clauses, plan, node, sights)
    return None if error is None else error.read


def backward_at(plan, node, sights):
    error = raised(Backward, two_clauses, plan, node, sights)
    return None if error is None else error.read


def first_backward(reads):
    """Return the number of the first read that sees an older version than an earlier one, or None."""
    return next((late for late, read in enumerate(reads)
                 if any(read[1] == other[1] and read[2] < other[2] for other in reads[:late])), None)


class ClausesTest(unittest.TestCase):
    def test_the_example(self):
        self.assertEqual(two_clauses(HOUSE, 0, (0, 1)), ((), ((0, 1),)))
        self.assertEqual(two_clauses(HOUSE, 0, (1, 0)), (((2, 0),), ()))
        self.assertEqual(two_clauses(sights=(1, 0), node=0, plan=HOUSE), (((2, 0),), ()))

    def test_no_pairs(self):
        for node, sights in ((0, ()), (0, (0, 0)), (0, (1, 1)), (1, (0,)), (1, (1,)), (3, ()), (4, (2, 2))):
            self.assertEqual(two_clauses(HOUSE, node, sights), ((), ()))

    def test_waits_are_of_new_and_then_old(self):
        self.assertEqual(two_clauses(ROUND, 0, (1, 0, 0)), (((3, 0), (5, 0)), ()))
        self.assertEqual(two_clauses(ROUND, 0, (1, 1, 0))[0], ((4, 0), (5, 0), (5, 3)))
        self.assertEqual(two_clauses(ROUND, 0, (1, 1, 1)), (((4, 0),), ((1, 3), (1, 5), (4, 5))))
        self.assertEqual(two_clauses(ROUND, 0, (4, 2, 1)), ((), ()))

    def test_drains_are_of_old_and_then_new(self):
        self.assertEqual(two_clauses(ROUND, 0, (0, 1, 1)), ((), ((0, 3), (0, 5), (4, 5))))
        self.assertEqual(two_clauses(ROUND, 0, (0, 0, 1)), ((), ((0, 5), (3, 5))))
        self.assertEqual(two_clauses(ROUND, 0, (2, 2, 1)), ((), ((2, 4), (2, 5))))

    def test_pairs_of_one_sign(self):
        self.assertEqual(two_clauses(LONE, 0, (0, 2)), ((), ((3, 1),)))
        self.assertEqual(two_clauses(LONE, 0, (0, 3)), ((), ((3, 2),)))
        self.assertEqual(two_clauses(LONE, 0, (0, 2, 4)), ((), ((2, 0), (3, 0), (3, 1))))
        self.assertEqual(two_clauses(LONE, 0, (1, 4)), ((), ((1, 0),)))

    def test_old_and_new_by_one_change(self):
        self.assertEqual(two_clauses(LONE, 0, (0, 1)), ((), ()))
        self.assertEqual(two_clauses(LONE, 0, (3, 4)), ((), ()))
        self.assertEqual(two_clauses(LONE, 0, (0, 1, 2)), ((), ((3, 1),)))
        self.assertEqual(two_clauses(LONE, 0, (0, 0, 1, 1)), ((), ()))

    def test_one_read_again(self):
        self.assertEqual(two_clauses(LONE, 0, (2,)), ((), ()))
        self.assertEqual(two_clauses(LONE, 0, (2, 2, 2)), ((), ()))

    def test_both(self):
        self.assertEqual(two_clauses(ROUND, 0, (1, 0, 0, 2, 1)), (
            ((3, 0), (4, 0), (4, 1), (5, 0)), ((1, 3), (2, 3), (3, 1), (5, 1), (5, 3))))

    def test_sights_that_are_left_over(self):
        self.assertEqual(two_clauses(HOUSE, 0, (0, 1, 0, 4)), ((), ((0, 1),)))

    def test_four_hundred_sights(self):
        sights = (0, 0, 1) * 66 + (1, 0, 1) * 67 + (3,)
        self.assertEqual(len(sights), 400)
        self.assertEqual(two_clauses(ROUND, 0, sights), (
            ((0, 5), (1, 5), (3, 0), (3, 5), (9, 5)),
            ((0, 2), (0, 5), (1, 2), (1, 5), (3, 0), (3, 2), (3, 5))))

    def test_some_walks(self):
        chance, kinds = random.Random(61), set()
        for _ in range(2500):
            plan, _, _ = some_ruled(chance, 7, 5)
            sights = tuple(chance.choice((0, 0, 1, 1, 2, 3)) for _ in range(chance.randint(0, 8)))
            node = chance.randrange(len(plan[2]))
            reads, end = walk_of(plan, node, sights)
            older = first_backward(reads)
            if end[0] == "astray":
                self.assertEqual(astray_at(plan, node, sights), len(reads))
                kinds.add(("astray", older is None))
            elif older is not None:
                self.assertEqual(backward_at(plan, node, sights), older)
                kinds.add(("backward", older))
            else:
                found = two_clauses(plan, node, sights)
                self.assertEqual(found, clauses_of(plan, reads))
                self.assertTrue(is_deeply_tuple(found) and len(found) == 2)
                kinds.add((len(found[0]), len(found[1])))
        self.assertTrue({("astray", True), ("astray", False), ("backward", 1), ("backward", 2), ("backward", 3),
                         (0, 0), (1, 0), (0, 1), (2, 0), (0, 2), (1, 1)} <= kinds, kinds)


class ErrorsTest(unittest.TestCase):
    def test_the_read_that_goes_astray(self):
        for node, sights, read in ((0, (2,), 0), (0, (1, 2), 1), (0, (0, 4), 1), (2, (3,), 0)):
            self.assertEqual(astray_at(HOUSE, node, sights), read)
        self.assertEqual(astray_at(ROUND, 0, (0, 0, 1) * 133 + (5,)), 399)

    def test_the_first_read_that_sees_an_older_version(self):
        for sights, read in (((1, 0), 1), ((0, 1, 1, 0), 3), ((3, 4, 2, 1, 0), 2), ((1, 3, 2, 2), 2), ((2, 3, 2), 2)):
            self.assertEqual(backward_at(LONE, 0, sights), read)
        self.assertEqual(backward_at(ROUND, 0, (1, 2, 0, 1, 1)), 4)
        self.assertEqual(backward_at(ROUND, 0, (2, 1, 0, 0, 0)), 3)
        self.assertEqual(backward_at(ROUND, 0, (0, 0, 1) * 133 + (3, 0, 0)), 401)

    def test_an_older_version_of_another_sign_is_none(self):
        self.assertIsNone(backward_at(ROUND, 0, (2, 1, 0, 2, 1)))

    def test_astray_goes_first(self):
        self.assertEqual(astray_at(LONE, 0, (1, 0, 5)), 2)
        self.assertEqual(astray_at(ROUND, 0, (2, 0, 0, 1, 0, 1, 0, 3)), 7)

    def test_what_is_left_over_is_neither(self):
        self.assertEqual(two_clauses(HOUSE, 0, (1, 0, 4, 0)), (((2, 0),), ()))


class PassableTest(unittest.TestCase):
    def test_by_the_regimes_of_some_plans(self):
        chance, kinds = random.Random(62), set()
        for _ in range(2500):
            plan, waits, drains = some_ruled(chance, 6, 5)
            sights = tuple(chance.choice((0, 0, 1, 1, 2)) for _ in range(chance.randint(0, 7)))
            node = chance.randrange(len(plan[2]))
            passable = is_passable(plan, waits, drains, node, sights)
            reads, end = walk_of(plan, node, sights)
            if end[0] == "astray" or first_backward(reads) is not None:
                self.assertIs(passable, False)
            else:
                order, drained = regime_of(plan, waits, drains)
                some_waits, some_drains = two_clauses(plan, node, sights)
                waited, held = bool(set(some_waits) & set(order)), bool(set(some_drains) & set(drained))
                self.assertIs(passable, not waited and not held)
                kinds.add((waited, held))
        self.assertEqual(kinds, {(False, False), (False, True), (True, False), (True, True)})

    def test_the_arguments_are_the_same_afterwards(self):
        chance = random.Random(63)
        for _ in range(20):
            case = (some_ruled(chance)[0], 0, (0, 1, 0, 1))
            before = copy.deepcopy(case)
            try:
                two_clauses(*case)
            except (AstrayWalk, Backward):
                pass
            self.assertEqual(repr(case), repr(before))


if __name__ == "__main__":
    unittest.main()
