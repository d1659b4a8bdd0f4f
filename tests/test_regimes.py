"""Regimes: what follows, what is drained, and the ways and pairs behind it."""

import copy
import unittest

from leavefirst.errors import Tangled
from leavefirst.regimes import drain_behind, is_regime, more_regimes, regime_of, way_behind
from tests.helper import (
    HOUSE, closed_of, drains_of, following, has_round, is_deeply_tuple, plan_names, plan_of, raised, single_steps,
    some_cases,
)

WAITS, DRAINS = ((2, 0),), ((0, 1),)
DIGITS = range(10)
# The first ten names can follow each other in 45 pairs without a round, in 90 with one.
ALL_UP = tuple((a, b) for a in DIGITS for b in DIGITS if a < b)
ALL_PAIRS = tuple((a, b) for a in DIGITS for b in DIGITS if a != b)


def all_raised(plan, waits, drains):
    """Return the names that Tangled tells in each function that raises it (None: nothing raised)."""
    calls = (
        (regime_of, plan, waits, drains), (drain_behind, plan, waits, drains, 0, 1),
        (drain_behind, plan, waits, drains, 8, 8), (more_regimes, plan, waits, drains),
    )
    errors = [raised(Tangled, *call) for call in calls]
    return [None if error is None else error.name for error in errors]


def more_of(plan, waits, drains):
    """Return what more_regimes should, as the interface defines it."""
    names = plan_names(plan)
    sign = {name: k for k, (_, changes) in enumerate(plan[0]) for name, _ in changes}
    tried = [(waits + ((a, b),), drains) for a in names for b in names if sign[a] != sign[b]]
    tried += [(waits, drains + ((a, b),)) for a in names for b in names if a != b]
    found = {closed_of(plan, *regime) for regime in tried if not has_round(plan, *regime)}
    return tuple(sorted(found - {closed_of(plan, waits, drains)}))


class ClosedRegimeTest(unittest.TestCase):
    def test_the_example(self):
        self.assertEqual(regime_of(HOUSE, WAITS, DRAINS), (((0, 1), (2, 0), (2, 1)), ((0, 1), (2, 1))))
        self.assertIs(is_regime(HOUSE, WAITS, DRAINS), True)
        self.assertIs(is_regime(HOUSE, WAITS, ((0, 2),)), False)

    def test_arguments_by_name(self):
        self.assertEqual(regime_of(drains=(), waits=WAITS, plan=HOUSE), (((2, 0),), ()))
        self.assertIs(is_regime(drains=(), waits=WAITS, plan=HOUSE), True)

    def test_no_waits_and_no_drains(self):
        self.assertEqual(regime_of(HOUSE, (), ()), ((), ()))
        self.assertEqual(regime_of(plan_of(()), (), ()), ((), ()))
        self.assertEqual(regime_of(plan_of((3, 1, 2)), (), ()), (((1, 2), (3, 1), (3, 2)), ()))
        self.assertIs(is_regime(plan_of((3, 1, 2)), (), ()), True)

    def test_rows_of_waits_of_drains_and_of_a_sign_together(self):
        plan = plan_of((5, 4), (3,), (0,))
        order, drained = regime_of(plan, ((4, 3),), ((3, 0),))
        self.assertEqual(order, ((3, 0), (4, 0), (4, 3), (5, 0), (5, 3), (5, 4)))
        self.assertEqual(drained, ((3, 0), (4, 0), (5, 0)))

    def test_drained_pairs_through_what_is_ahead_and_behind(self):
        plan = plan_of((0, 1), (2, 3), (4,))
        self.assertEqual(regime_of(plan, (), ((1, 2),))[1], ((0, 2), (0, 3), (1, 2), (1, 3)))
        self.assertEqual(regime_of(plan, ((4, 0),), ((1, 2),))[1], ((0, 2), (0, 3), (1, 2), (1, 3), (4, 2), (4, 3)))
        self.assertEqual(regime_of(plan, ((3, 4),), ((1, 3),))[1], ((0, 3), (0, 4), (1, 3), (1, 4)))

    def test_drained_pairs_of_one_sign(self):
        plan = plan_of((0, 1, 2, 3))
        self.assertEqual(regime_of(plan, (), ((1, 2),))[1], ((0, 2), (0, 3), (1, 2), (1, 3)))
        self.assertEqual(regime_of(plan, (), ((0, 3),))[1], ((0, 3),))
        self.assertEqual(regime_of(plan, (), ((0, 3),))[0], regime_of(plan, (), ())[0])

    def test_waits_drain_nothing(self):
        self.assertEqual(regime_of(HOUSE, ((0, 1), (1, 2)), ()), (((0, 1), (0, 2), (1, 2)), ()))

    def test_names_that_the_plan_does_not_have(self):
        plan = plan_of((0,), (1,))
        self.assertEqual(regime_of(plan, ((0, 9), (8, 1), (9, 8)), ()), (((0, 1),), ()))
        self.assertEqual(regime_of(plan, ((0, 9), (8, 1)), ((9, 8),)), (((0, 1),), ((0, 1),)))
        self.assertEqual(regime_of(plan, ((0, 9),), ((9, 1),)), (((0, 1),), ((0, 1),)))
        self.assertEqual(regime_of(plan, ((8, 9),), ((9, 7),)), ((), ()))
        self.assertEqual(regime_of(plan, ((0, 9),), ((8, 1),)), ((), ()))

    def test_ninety_pairs(self):
        plan = plan_of((3, 1, 2), (9, 0))
        self.assertEqual(len(ALL_PAIRS), 90)
        self.assertIs(is_regime(plan, ALL_PAIRS, ALL_PAIRS), False)
        self.assertEqual(set(all_raised(plan, ALL_PAIRS, ALL_PAIRS)), {0})
        plan = plan_of((0, 1, 2, 3), (4, 5, 6, 7))
        pairs = tuple((a, b) for a, b in ALL_UP if b < 8)
        self.assertEqual(regime_of(plan, ALL_UP, ALL_UP), (pairs, pairs))
        self.assertEqual(regime_of(plan, ALL_UP, ()), (pairs, ()))
        self.assertEqual(more_regimes(plan, ALL_UP, ALL_UP), ())

    def test_what_goes_somewhat_beyond_the_limits(self):
        plan = plan_of((10, 0, 1, 2, 3, 4), (12,), (), (5,), (6,))
        self.assertEqual(regime_of(plan, ((4, 12),), ((4, 11), (11, 12)))[1],
                         tuple((name, 12) for name in (0, 1, 2, 3, 4, 10)))
        self.assertEqual(way_behind(plan, ((4, 11),), ((11, 12),), 3, 12), (3, 4, 11, 12))

    def test_some_regimes(self):
        kinds = set()
        for plan, waits, drains in some_cases(3, 600):
            tangled = has_round(plan, waits, drains)
            self.assertIs(is_regime(plan, waits, drains), not tangled)
            if not tangled:
                closed = regime_of(plan, waits, drains)
                self.assertEqual(closed, closed_of(plan, waits, drains))
                self.assertTrue(is_deeply_tuple(closed))
                self.assertEqual(regime_of(plan, *closed), closed)
            kinds.add(tangled)
        self.assertEqual(kinds, {True, False})


class RoundsTest(unittest.TestCase):
    def test_the_least_name_is_told(self):
        plan = plan_of((0, 1), (2,))
        for waits, drains, name in (
                (((2, 0),), ((0, 2),), 0), (((1, 2), (2, 1)), (), 1), ((), ((1, 0),), 0), (((1, 0),), (), 0),
                (((1, 2),), ((2, 0),), 0), (((4, 7), (7, 4)), (), 4), (((7, 8), (8, 9)), ((9, 7),), 7),
                (((2, 9),), ((9, 2),), 2), (((5, 6), (6, 5), (8, 9)), ((1, 2), (2, 1)), 1),
                (((0, 5), (5, 6), (6, 5), (6, 2)), (), 5)):
            self.assertIs(is_regime(plan, waits, drains), False)
            self.assertEqual(all_raised(plan, waits, drains), [name] * 4)

    def test_the_plan_without_names(self):
        self.assertEqual(all_raised(plan_of((), ()), ((8, 3),), ((3, 8),)), [3] * 4)

    def test_some_rounds(self):
        for plan, waits, drains in some_cases(4, 400):
            least = min((a for a, b in following(plan, waits, drains) if a == b), default=None)
            self.assertEqual(all_raised(plan, waits, drains), [least] * 4)


class WayBehindTest(unittest.TestCase):
    def require_way(self, plan, waits, drains, a, b):
        """Assert that the way from a to b is as the interface tells; return it."""
        way = way_behind(plan, waits, drains, a, b)
        if (a, b) not in following(plan, waits, drains):
            self.assertIsNone(way)
            return None
        self.assertTrue(is_deeply_tuple(way) and len(way) >= 2, way)
        self.assertEqual((way[0], way[-1]), (a, b))
        self.assertTrue(set(zip(way, way[1:])) <= single_steps(plan, waits, drains), way)
        self.assertEqual(len(set(way)), len(way) - (a == b), way)
        return way

    def test_the_example(self):
        self.assertEqual(way_behind(HOUSE, WAITS, DRAINS, 2, 1), (2, 0, 1))
        self.assertEqual(way_behind(b=1, a=0, drains=DRAINS, waits=WAITS, plan=HOUSE), (0, 1))

    def test_each_pair_of_names(self):
        for plan, waits, drains in (
                (HOUSE, WAITS, DRAINS), (HOUSE, (), ()), (plan_of((0, 1, 2, 3), (4, 5, 6, 7)), ((3, 4),), ((7, 9),)),
                (plan_of((3, 1), (0,)), ((1, 0), (8, 9)), ((0, 3), (9, 8))), (HOUSE, ALL_PAIRS, ()),
                (plan_of(()), (), ()), (plan_of((2, 1, 0)), ((0, 5), (5, 6), (6, 2)), ())):
            for a in DIGITS:
                for b in DIGITS:
                    self.require_way(plan, waits, drains, a, b)

    def test_steps_in_a_sign_are_directly_behind(self):
        self.assertEqual(way_behind(plan_of((3, 1, 0, 2)), (), (), 3, 2), (3, 1, 0, 2))
        self.assertIsNone(way_behind(plan_of((3, 1, 0, 2)), (), (), 2, 3))
        self.assertIsNone(way_behind(plan_of((3, 1, 0, 2)), (), (), 1, 1))

    def test_round_ways(self):
        self.assertEqual(way_behind(plan_of((0, 1)), ((1, 0),), (), 0, 0), (0, 1, 0))
        self.assertEqual(way_behind(plan_of((0, 1)), ((1, 0),), (), 1, 1), (1, 0, 1))
        self.assertEqual(way_behind(plan_of((0, 1)), ((1, 5),), ((5, 1),), 5, 5), (5, 1, 5))
        self.assertEqual(way_behind(plan_of((0, 1)), ((1, 5),), ((5, 1),), 0, 5), (0, 1, 5))
        self.assertIsNone(way_behind(plan_of((0, 1)), ((1, 5),), ((5, 1),), 0, 0))

    def test_names_beyond_the_digits_do_not_follow(self):
        for a, b in ((10, 0), (0, 10), (10, 10), (-1, 0), (0, -1)):
            self.assertIsNone(way_behind(HOUSE, WAITS, DRAINS, a, b))

    def test_some_ways(self):
        lengths = set()
        for plan, waits, drains in some_cases(5, 120):
            for a in DIGITS:
                for b in DIGITS:
                    lengths.add(len(self.require_way(plan, waits, drains, a, b) or ()))
        self.assertTrue({0, 2, 3, 4, 5} <= lengths)


class DrainBehindTest(unittest.TestCase):
    def test_the_example(self):
        self.assertEqual(drain_behind(HOUSE, WAITS, DRAINS, 2, 1), (0, 1))
        self.assertEqual(drain_behind(d=1, c=0, drains=DRAINS, waits=WAITS, plan=HOUSE), (0, 1))

    def test_the_least_drain_is_told(self):
        plan = plan_of((0, 1), (2, 3))
        self.assertEqual(drain_behind(plan, (), ((0, 3), (1, 2)), 0, 3), (0, 3))
        self.assertEqual(drain_behind(plan, (), ((0, 3), (1, 2)), 1, 3), (1, 2))
        self.assertEqual(drain_behind(plan, (), ((1, 2), (1, 3)), 0, 3), (1, 2))
        self.assertEqual(drain_behind(plan_of((1, 0), (2,)), (), ((0, 2), (1, 2)), 1, 2), (0, 2))
        self.assertEqual(drain_behind(plan_of((0, 1)), (), ((0, 1),), 0, 1), (0, 1))

    def test_none(self):
        plan = plan_of((0, 1), (2, 3))
        self.assertIsNone(drain_behind(plan, ((0, 2),), (), 0, 2))
        self.assertIsNone(drain_behind(plan, (), ((1, 2),), 2, 1))
        self.assertIsNone(drain_behind(plan, (), ((0, 3),), 1, 3))
        self.assertIsNone(drain_behind(plan, (), ((0, 3),), 0, 2))
        for name in DIGITS:
            self.assertIsNone(drain_behind(plan, ((8, 9),), ((1, 2), (5, 6)), name, name))

    def test_names_that_the_plan_does_not_have(self):
        plan = plan_of((0, 1), (2, 3))
        self.assertEqual(drain_behind(plan, ((7, 8),), ((8, 9),), 7, 9), (8, 9))
        self.assertEqual(drain_behind(plan, ((9, 0),), ((1, 8),), 9, 8), (1, 8))
        self.assertEqual(drain_behind(plan, ((8, 2),), ((9, 8),), 9, 3), (9, 8))
        self.assertIsNone(drain_behind(plan, ((7, 8),), ((8, 9),), 6, 9))
        self.assertIsNone(drain_behind(plan, ((7, 8),), ((8, 9),), 7, 5))

    def test_some_drains(self):
        for plan, waits, drains in some_cases(6, 150):
            pairs = following(plan, waits, drains)
            if not has_round(plan, waits, drains):
                for c in DIGITS:
                    for d in DIGITS:
                        least = (drains_of(pairs, drains, c, d) + [None])[0]
                        self.assertEqual(drain_behind(plan, waits, drains, c, d), least)


class MoreRegimesTest(unittest.TestCase):
    def test_nothing_more(self):
        self.assertEqual(more_regimes(plan_of(()), (), ()), ())
        self.assertEqual(more_regimes(plan_of((5,), ()), (), ()), ())
        self.assertEqual(more_regimes(plan_of((0,), (1,)), (), ((0, 1),)), ())
        self.assertEqual(more_regimes(plan_of((1, 0)), (), ((1, 0),)), ())

    def test_one_sign_has_drains_only(self):
        self.assertEqual(more_regimes(plan_of((1, 0)), (), ()), ((((1, 0),), ((1, 0),)),))

    def test_two_changes_of_two_signs(self):
        plan, up, down = plan_of((0,), (1,)), ((0, 1),), ((1, 0),)
        self.assertEqual(more_regimes(plan, (), ()), ((up, ()), (up, up), (down, ()), (down, down)))
        self.assertEqual(more_regimes(plan, up, ()), ((up, up),))
        self.assertEqual(more_regimes(drains=(), waits=down, plan=plan), ((down, down),))

    def test_the_house_with_a_wait(self):
        # Waits 0-1, 1-0, 1-2, 2-1 and drains 0-1, 1-0, 1-2, 2-0, 2-1; 0-2 makes a round.
        self.assertEqual(more_regimes(HOUSE, WAITS, ()), (
            (((0, 1), (2, 0), (2, 1)), ()),
            (((0, 1), (2, 0), (2, 1)), ((0, 1), (2, 1))),
            (((1, 0), (1, 2), (2, 0)), ()),
            (((1, 0), (1, 2), (2, 0)), ((1, 0), (1, 2))),
            (((1, 0), (2, 0)), ()),
            (((1, 0), (2, 0)), ((1, 0),)),
            (((2, 0),), ((2, 0),)),
            (((2, 0), (2, 1)), ()),
            (((2, 0), (2, 1)), ((2, 1),)),
        ))

    def test_counts(self):
        # Three single changes: six waits and six drains. Two in a row and one: four waits, five drains.
        # Three in a row: three drains. Two in a row twice: eight waits, ten drains.
        for plan, many in ((plan_of((0,), (1,), (2,)), 12), (plan_of((0, 1), (2,)), 9), (plan_of((2, 0, 1)), 3),
                           (plan_of((0, 1), (2, 3)), 18)):
            self.assertEqual(len(more_regimes(plan, (), ())), many)

    def test_names_that_the_plan_does_not_have_stay_in_force(self):
        plan, up = plan_of((0,), (1,)), ((0, 1),)
        self.assertEqual(more_regimes(plan, ((0, 9), (9, 1)), ()), ((up, up),))
        self.assertEqual(more_regimes(plan, ((0, 9),), ((9, 1),)), ())

    def test_some_regimes(self):
        seen = 0
        for plan, waits, drains in some_cases(7, 60):
            if not has_round(plan, waits, drains):
                found = more_regimes(plan, waits, drains)
                self.assertEqual(found, more_of(plan, waits, drains))
                self.assertTrue(is_deeply_tuple(found))
                self.assertTrue(all(low < high for low, high in zip(found, found[1:])))
                seen += len(found)
        self.assertTrue(seen > 100)


class ArgumentsTest(unittest.TestCase):
    def test_they_are_the_same_afterwards(self):
        for plan, waits, drains in some_cases(8, 40):
            before = copy.deepcopy((plan, waits, drains))
            all_raised(plan, waits, drains)
            is_regime(plan, waits, drains)
            way_behind(plan, waits, drains, 0, 1)
            self.assertEqual(repr((plan, waits, drains)), repr(before))


if __name__ == "__main__":
    unittest.main()
