"""Passable walks: which they are, deeds for them, and what hinders the others."""

import copy
import itertools
import random
import unittest

from leavefirst.entering import carry, deeds_for, hindrance, is_passable
from leavefirst.errors import AstrayWalk, Tangled
from tests.helper import HOUSE, has_round, is_plain, plan_names, raised, some_cases
from tests.naive import (
    hindered_by, is_passable_by_cuts, least_with, names_at, seen_from, some_ruled, walk_of,
)

WAITS, DRAINS = ((2, 0),), ((0, 1),)
ENTER, LOOK = ("enter",), ("look",)
# The walker goes round for ever and reads all signs in turn.
ROUND = (((3, ((0, 4), (1, 5), (2, 6))), (1, ((3, 2), (4, 3))), (0, ((5, 1),))), (0,),
         (("read", 0, (), 1), ("read", 1, (), 2), ("read", 2, (), 0)))


def astray_at(plan, waits, drains, node, sights):
    """Return the number of the read that hindrance tells as one that goes astray, or None."""
    error = raised(AstrayWalk, hindrance, plan, waits, drains, node, sights)
    return None if error is None else error.read


class HindranceCase(unittest.TestCase):
    def require_deeds(self, case, deeds):
        """Assert that the deeds for a passable walk are as the interface tells."""
        plan, waits, drains, node, sights = case
        reads, end = walk_of(plan, node, sights)
        needed = least_with(plan, waits, drains, [name for read in reads for name in names_at(plan, read)[0]])
        seen, versions, place, _ = carry(plan, waits, drains, node, deeds)
        self.assertEqual((seen, versions), (sights[:len(reads)], needed))
        self.assertEqual(deeds[-1], LOOK if reads else ENTER)
        self.assertEqual((deeds.count(ENTER), deeds.count(LOOK)), (1, len(reads)))
        self.assertEqual(len(deeds), 1 + len(reads) + sum(needed))
        self.assertTrue(place == end[1] or plan[2][place] == end)
        self.assertTrue(is_plain(deeds))

    def require_all(self, case, hinders):
        """Assert that the three functions tell of a walk that does not go astray what hinders it."""
        self.assertEqual(hindrance(*case), hinders)
        self.assertTrue(hinders is None or is_plain(hindrance(*case)))
        self.assertIs(is_passable(*case), hinders is None)
        if hinders is None:
            self.require_deeds(case, deeds_for(*case))
        else:
            self.assertIsNone(deeds_for(*case))


class PassableTest(HindranceCase):
    def test_the_example(self):
        self.require_all((HOUSE, WAITS, (), 0, (0, 1)), None)
        self.require_all((HOUSE, WAITS, DRAINS, 0, (0, 1)), ("drain", 0, 1))
        self.require_all((HOUSE, (), (), 0, (1, 0)), None)
        self.require_all((HOUSE, WAITS, (), 0, (1, 0)), ("wait", 0, 1))

    def test_arguments_by_name(self):
        case = {"sights": (0, 1), "node": 0, "drains": DRAINS, "waits": WAITS, "plan": HOUSE}
        self.assertEqual((is_passable(**case), deeds_for(**case), hindrance(**case)), (False, None, ("drain", 0, 1)))

    def test_deeds_of_the_house(self):
        self.assertEqual(len(deeds_for(HOUSE, (), (), 0, (1,))), 3)
        deeds = deeds_for(HOUSE, WAITS, DRAINS, 1, (1,))
        self.assertEqual(sorted(deeds, key=str), [("change", 0), ("change", 1), ("change", 2), ENTER, LOOK])
        self.assertTrue(deeds.index(("change", 0)) < deeds.index(ENTER))
        self.assertEqual(deeds_for(HOUSE, WAITS, DRAINS, 0, (0, 0)), (ENTER, LOOK, LOOK))

    def test_walks_of_no_reads(self):
        for node, sights in ((0, ()), (2, ()), (3, ()), (4, (1, 2)), (3, (4, 4, 4))):
            self.require_all((HOUSE, WAITS, DRAINS, node, sights), None)
            self.assertEqual(deeds_for(HOUSE, WAITS, DRAINS, node, sights), (ENTER,))

    def test_sights_that_are_left_over(self):
        self.require_all((HOUSE, WAITS, DRAINS, 0, (1, 1, 4, 0, 3)), None)
        self.require_all((HOUSE, WAITS, DRAINS, 0, (0, 1, 4, 0, 3)), ("drain", 0, 1))

    def test_the_least_reads_are_told(self):
        # The reads 2 and 5 see the third sign, 0 and 3 the first, 1 and 4 the second one.
        self.require_all((ROUND, ((5, 0),), (), 0, (1, 0, 0, 1, 0, 0)), ("wait", 0, 2))
        self.require_all((ROUND, ((5, 3),), (), 0, (1, 1, 0, 1, 1, 0)), ("wait", 1, 2))
        self.require_all((ROUND, ((5, 0), (5, 3)), (), 0, (1, 1, 0)), ("wait", 0, 2))
        self.require_all((ROUND, ((5, 1),), (), 0, (1, 1, 0, 2, 1, 0)), ("wait", 3, 5))
        self.require_all((ROUND, (), ((0, 3),), 0, (0, 0, 0, 0, 1, 0, 1, 1)), ("drain", 0, 4))
        self.require_all((ROUND, (), ((0, 4),), 0, (0, 1, 0, 1, 1, 1, 3, 2)), ("drain", 0, 7))
        self.require_all((ROUND, (), ((3, 5),), 0, (0, 0, 0, 1, 0, 1, 1, 1)), ("drain", 1, 5))
        self.require_all((ROUND, (), ((0, 3), (5, 4)), 0, (1, 1, 0, 1, 2)), ("drain", 2, 4))

    def test_waits_go_first(self):
        self.require_all((ROUND, ((5, 1),), ((0, 3),), 0, (0, 1, 0, 2, 1, 0)), ("wait", 3, 5))
        self.require_all((ROUND, ((5, 1),), ((0, 3),), 0, (0, 1, 0, 2, 1, 1)), ("drain", 0, 1))
        self.require_all((ROUND, (), ((0, 3),), 0, (1, 1, 0, 0)), ("wait", 0, 3))
        self.require_all((ROUND, (), ((0, 3),), 0, (0, 1, 0)), ("drain", 0, 1))

    def test_a_sign_that_is_read_twice(self):
        for sights, hinders in (((0, 0, 0, 0), None), ((0, 0, 0, 1), None), ((0, 0, 0, 3), None),
                                ((1, 0, 0, 0), ("wait", 0, 3)), ((3, 0, 0, 2), ("wait", 0, 3)),
                                ((3, 0, 0, 0), ("wait", 0, 3))):
            self.require_all((ROUND, (), (), 0, sights), hinders)

    def test_drains_of_one_sign(self):
        for sights, hinders in (((0, 0, 0, 1), None), ((0, 0, 0, 2), ("drain", 0, 3)), ((1, 0, 0, 3), None),
                                ((0, 0, 0, 3), ("drain", 0, 3)), ((2, 0, 0, 3), None)):
            self.require_all((ROUND, (), ((0, 1),), 0, sights), hinders)

    def test_four_hundred_sights(self):
        sights = (0, 0, 1) * 66 + (1, 0, 1) * 67 + (3,)
        self.assertEqual(len(sights), 400)
        self.require_all((ROUND, (), (), 0, sights), None)
        self.require_all((ROUND, (), (), 0, sights[:399] + (0,)), ("wait", 198, 399))
        self.require_all((ROUND, (), ((0, 2),), 0, sights), ("drain", 0, 399))
        self.require_all((ROUND, ((0, 5),), (), 0, sights), ("wait", 2, 3))
        self.require_all((ROUND, (), ((5, 0),), 0, (0, 0, 0) * 66 + sights[198:]), ("drain", 2, 198))

    def test_astray_walks(self):
        for node, sights, read in ((0, (2,), 0), (0, (1, 2), 1), (0, (0, 4), 1), (2, (3,), 0)):
            self.assertEqual(astray_at(HOUSE, WAITS, DRAINS, node, sights), read)
            self.assertIs(is_passable(HOUSE, WAITS, DRAINS, node, sights), False)
            self.assertIsNone(deeds_for(HOUSE, WAITS, DRAINS, node, sights))
        self.assertEqual(astray_at(ROUND, ((5, 0),), (), 0, (1, 0, 0, 4)), 3)
        self.assertEqual(astray_at(ROUND, (), (), 0, (0, 0, 1) * 133 + (4,)), 399)
        self.assertIsNone(astray_at(HOUSE, WAITS, DRAINS, 0, (0, 1, 4)))

    def test_nodes_that_are_no_starts(self):
        self.require_all((HOUSE, WAITS, DRAINS, 1, (1,)), None)
        self.require_all((HOUSE, WAITS, DRAINS, 2, (0,)), None)


class SomeWalksTest(HindranceCase):
    def all_walks(self, plan, most):
        """Return the pairs of a node and sights, at most so many, versions that no sign has among them."""
        longest = max(len(changes) for _, changes in plan[0])
        rows = [row for many in range(most + 1) for row in itertools.product(range(longest + 1), repeat=many)]
        return list(itertools.product(range(len(plan[2])), rows))

    def test_by_trying_all_deeds(self):
        chance, kinds = random.Random(41), set()
        for _ in range(45):
            plan, waits, drains = some_ruled(chance, 4, 4)
            for node in range(len(plan[2])):
                seen = seen_from(plan, waits, drains, node, 3)
                for other, sights in self.all_walks(plan, 3):
                    if other == node:
                        reads, end = walk_of(plan, node, sights)
                        good = end[0] != "astray" and sights[:len(reads)] in seen
                        self.assertIs(is_passable(plan, waits, drains, node, sights), good)
                        kinds.add((end[0], good, len(reads)))
        self.assertTrue({("end", True, 3), ("end", False, 3), ("open", True, 3), ("astray", False, 2)} <= kinds, kinds)

    def test_by_cuts_and_by_all_pairs_of_reads(self):
        chance, kinds = random.Random(42), set()
        for _ in range(150):
            plan, waits, drains = some_ruled(chance, 6, 5)
            for _ in range(25):
                sights = tuple(chance.choice((0, 0, 1, 1, 2, 3)) for _ in range(chance.randint(0, 7)))
                case = (plan, waits, drains, chance.randrange(len(plan[2])), sights)
                reads, end = walk_of(plan, *case[3:])
                if end[0] == "astray":
                    self.assertEqual(astray_at(*case), len(reads))
                    self.assertIs(is_passable(*case), False)
                    self.assertIsNone(deeds_for(*case))
                else:
                    hinders = hindered_by(plan, waits, drains, reads)
                    self.assertIs(is_passable_by_cuts(plan, waits, drains, reads), hinders is None)
                    self.require_all(case, hinders)
                    kinds.add(hinders)
        self.assertTrue({None, ("wait", 0, 1), ("wait", 1, 2), ("drain", 0, 1), ("drain", 0, 3)} <= kinds, kinds)


class RoundsTest(unittest.TestCase):
    def test_tangled_goes_first(self):
        for waits, drains, name in ((((1, 0),), DRAINS, 0), (((8, 7), (7, 8)), (), 7)):
            for sights in ((), (0, 1), (4,)):
                for call in (is_passable, deeds_for, hindrance):
                    self.assertEqual(raised(Tangled, call, HOUSE, waits, drains, 0, sights).name, name)

    def test_some_rounds(self):
        for plan, waits, drains in some_cases(43, 60):
            for call in (is_passable, deeds_for, hindrance):
                error = raised(Tangled, call, plan, waits, drains, 0, ())
                self.assertIs(error is not None, has_round(plan, waits, drains))


class ArgumentsTest(unittest.TestCase):
    def test_they_are_the_same_afterwards(self):
        chance = random.Random(44)
        for _ in range(40):
            case = (*some_ruled(chance), 0, (0, 1, 1, 0))
            before = copy.deepcopy(case)
            is_passable(*case)
            deeds_for(*case)
            raised(AstrayWalk, hindrance, *case)
            self.assertEqual(repr(case), repr(before))


if __name__ == "__main__":
    unittest.main()
