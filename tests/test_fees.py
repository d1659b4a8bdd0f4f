"""Fees: the price of a regime, and the cheapest good regimes of small plans."""

import copy
import random
import time
import unittest

from leavefirst.errors import Tangled, TooMany
from leavefirst.fees import best_regime, least_worth, lost_table, regime_price
from leavefirst.regimes import regime_of
from tests.helper import HOUSE, closed_of, has_round, is_deeply_tuple, plan_of, raised, some_cases
from tests.plain import (
    ONES, all_closed, is_calm_plainly, is_good, is_regime_table, price_plainly, some_busy_house,
)

WAITS, DRAINS = ((2, 0),), ((0, 1),)
NOTHING = (0,) * 10
TENS = (1, 10, 2, 20, 3, 30, 4, 40, 5, 50)
UP_TO_THREE = ((1, 1, 1), (2, 1), (1, 2), (1, 1), (3,), (2,), (1, 0, 1, 1), (1,))
OF_FOUR = ((2, 2), (3, 1), (1, 3), (4,), (0, 2, 0, 2))
MISLED_AT_ONCE = (((0, ((3, 1),)),), (0,), (("end", "misled"),))


def some_prices(chance):
    """Return a tuple of prices: of one kind, of all kinds, or none at all."""
    most = chance.choice((0, 1, 9, 99))
    if chance.random() < 0.2:
        return (most,) * 10
    return tuple(chance.randint(0, most) for _ in range(10))


def some_small_plans(seed, many):
    """Return as many plans of up to three changes; in few of them everything is good without waits and drains."""
    chance, found = random.Random(seed), []
    while len(found) < many:
        plan = some_busy_house(chance, UP_TO_THREE)
        if chance.random() < 0.1 or least_worth(plan, ONES, ONES) != 0:
            found.append(plan)
    return found


class PriceTest(unittest.TestCase):
    def test_the_example(self):
        self.assertEqual(regime_price(HOUSE, ONES, ONES, WAITS, DRAINS), 5)
        self.assertEqual(regime_price(drains=DRAINS, waits=WAITS, fees=ONES, prices=ONES, plan=HOUSE), 5)

    def test_prices_are_for_the_order_and_fees_for_the_drained_pairs(self):
        # The order is 0-1, 2-0, 2-1, all of unlike signs; the drained pairs are 0-1 and 2-1.
        self.assertEqual(regime_price(HOUSE, (5, 70, 11) + NOTHING[3:], NOTHING, WAITS, DRAINS), 5 + 70 + 70)
        self.assertEqual(regime_price(HOUSE, NOTHING, (5, 70, 11) + NOTHING[3:], WAITS, DRAINS), 70 + 70)
        self.assertEqual(regime_price(HOUSE, TENS, ONES, WAITS, DRAINS), 1 + 10 + 10 + 2)
        self.assertEqual(regime_price(HOUSE, ONES, TENS, WAITS, ()), 1)

    def test_pairs_of_one_sign_have_fees_and_no_prices(self):
        plan = plan_of((4, 5), (6,))
        self.assertEqual(regime_price(plan, (99,) * 10, (99,) * 10, (), ()), 0)
        self.assertEqual(regime_price(plan, TENS, NOTHING, (), ((4, 5),)), 0)
        self.assertEqual(regime_price(plan, NOTHING, TENS, (), ((4, 5),)), 30)
        self.assertEqual(regime_price(plan, TENS, NOTHING, ((5, 6),), ((4, 5),)), 4 + 4)
        self.assertEqual(regime_price(plan, NOTHING, TENS, ((5, 6),), ((4, 5),)), 30 + 4)

    def test_the_greatest_prices_and_none(self):
        plan = plan_of((0, 1, 2, 3), (4, 5, 6, 7))
        drains = ((0, 4), (3, 4), (4, 7))
        for prices, fees in (((99,) * 10, NOTHING), (NOTHING, (99,) * 10), ((99,) * 10, (99,) * 10)):
            self.assertEqual(regime_price(plan, prices, fees, (), drains), price_plainly(plan, prices, fees, (), drains))
        self.assertEqual(regime_price(plan, NOTHING, NOTHING, (), drains), 0)
        self.assertEqual(regime_price(plan, (99,) * 10, NOTHING, (), drains), 99 * 16)

    def test_names_that_the_plan_does_not_have_cost_nothing(self):
        self.assertEqual(regime_price(HOUSE, ONES, ONES, ((7, 8), (8, 9)), ((5, 6), (6, 7))), 0)
        self.assertEqual(regime_price(HOUSE, ONES, ONES, ((0, 8),), ((9, 0),)), 0)
        self.assertEqual(regime_price(HOUSE, TENS, NOTHING, ((0, 8), (8, 1)), ()), 10)
        self.assertEqual(regime_price(HOUSE, NOTHING, TENS, ((8, 1),), ((0, 8),)), 10)

    def test_some_regimes(self):
        chance = random.Random(81)
        for plan, waits, drains in some_cases(82, 300):
            prices, fees = some_prices(chance), some_prices(chance)
            if has_round(plan, waits, drains):
                self.assertIsNotNone(raised(Tangled, regime_price, plan, prices, fees, waits, drains))
            else:
                self.assertEqual(regime_price(plan, prices, fees, waits, drains),
                                 price_plainly(plan, prices, fees, waits, drains))

    def test_tangled(self):
        self.assertEqual(raised(Tangled, regime_price, HOUSE, ONES, ONES, ((1, 0),), ((0, 1),)).name, 0)
        self.assertEqual(raised(Tangled, regime_price, HOUSE, ONES, ONES, ((8, 7), (7, 8)), ()).name, 7)


class BestTest(unittest.TestCase):
    def require_best(self, plan, prices, fees):
        """Assert that the three functions tell what going through all closed regimes does; return the least worth."""
        good = [regime for regime in all_closed(plan) if is_good(plan, *regime)]
        least = min([price_plainly(plan, prices, fees, *regime) for regime in good], default=None)
        best, entries = best_regime(plan, prices, fees), lost_table(plan)
        self.assertEqual(least_worth(plan, prices, fees), least)
        self.assertEqual((best is None, entries is None), (not good, bool(good)))
        if good:
            self.assertIn(best, good)
            self.assertTrue(is_deeply_tuple(best))
            self.assertEqual(regime_of(plan, *best), best)
            self.assertEqual(regime_price(plan, prices, fees, *best), least)
        else:
            self.require_lost(plan, entries)
        return least

    def require_lost(self, plan, entries):
        """Assert that these are the entries of a table of regimes without excuses."""
        self.assertTrue(is_deeply_tuple(entries))
        self.assertEqual([entry[0] for entry in entries], sorted({entry[0] for entry in entries}))
        self.assertIn(closed_of(plan, (), ()), [entry[0] for entry in entries])
        self.assertTrue(is_regime_table(plan, entries, lambda regime: False))

    def test_the_example(self):
        self.assertEqual(least_worth(HOUSE, ONES, ONES), 5)
        self.assertEqual(best_regime(HOUSE, ONES, ONES), regime_of(HOUSE, WAITS, DRAINS))
        self.assertIsNone(lost_table(HOUSE))
        self.assertEqual(least_worth(fees=ONES, prices=ONES, plan=HOUSE), 5)
        self.assertEqual(best_regime(fees=ONES, prices=ONES, plan=HOUSE), regime_of(HOUSE, WAITS, DRAINS))
        self.assertIsNone(lost_table(plan=HOUSE))

    def test_nothing_is_asked_of_a_plan_that_misleads_nobody(self):
        plan = (HOUSE[0], (3,), HOUSE[2])
        self.assertEqual(least_worth(plan, (99,) * 10, (99,) * 10), 0)
        self.assertEqual(best_regime(plan, NOTHING, NOTHING), ((), ()))
        self.assertIsNone(lost_table(plan))

    def test_a_plan_that_is_lost_at_once(self):
        self.assertIsNone(least_worth(MISLED_AT_ONCE, ONES, ONES))
        self.assertIsNone(best_regime(MISLED_AT_ONCE, ONES, ONES))
        self.assertEqual(lost_table(MISLED_AT_ONCE), ((((), ()), 0, ()),))

    def test_a_plan_that_is_lost_by_rounds(self):
        # Each of the two walks is kept away by a wait, but not both of them.
        nodes = (("read", 0, ((1, 1),), 2), ("read", 1, ((0, 5),), 4), ("read", 1, ((1, 3),), 4),
                 ("read", 0, ((0, 5),), 4), ("end", "good"), ("end", "misled"))
        plan = (((0, ((0, 1),)), (0, ((1, 1),))), (0, 2), nodes)
        self.assertEqual(self.require_best(plan, ONES, ONES), None)
        self.require_lost(plan, lost_table(plan))
        self.assertTrue(len(lost_table(plan)) > 1)

    def test_a_plan_that_is_lost_by_holds(self):
        # Who has read the first sign's old value must not read the second one's new one, but goes round till it does.
        nodes = (("read", 0, ((0, 1),), 2), ("read", 1, ((0, 1),), 3), ("end", "good"), ("end", "misled"))
        plan = (((0, ((0, 1),)), (0, ((1, 1),))), (0,), nodes)
        self.assertEqual(self.require_best(plan, ONES, ONES), None)
        self.assertTrue({3, 4} == {len(entry) for entry in lost_table(plan)})

    def test_the_cheapest_one_is_not_the_shortest_one(self):
        # The walk that reads two old values and then two new ones is kept away by each of some drains.
        nodes = (("read", 0, ((0, 1),), 3), ("read", 1, ((1, 2),), 3), ("read", 2, ((1, 4),), 3),
                 ("end", "good"), ("end", "misled"))
        plan = (((0, ((0, 1),)), (0, ((1, 1),)), (0, ((2, 1),))), (0,), nodes)
        for fees in ((0, 7, 9), (0, 9, 7), (0, 0, 5), (0, 99, 0)):
            fees = fees + NOTHING[3:]
            least = self.require_best(plan, NOTHING, fees)
            self.assertEqual(least, min(fees[1:3]))
        self.assertEqual(best_regime(plan, ONES, (0, 7, 9) + NOTHING[3:]), (((0, 1),), ((0, 1),)))
        self.assertEqual(best_regime(plan, ONES, (0, 9, 7) + NOTHING[3:]), (((0, 2),), ((0, 2),)))

    def test_prices_decide_between_waits_and_drains(self):
        nodes = (("read", 0, ((1, 1),), 3), ("read", 1, ((0, 2),), 3), ("read", 2, ((1, 4),), 3),
                 ("end", "good"), ("end", "misled"))
        plan = (((0, ((0, 1),)), (0, ((1, 1),)), (0, ((2, 1),))), (0,), nodes)
        self.assertEqual(best_regime(plan, (3,) * 10, (3,) * 10), (((1, 0),), ()))
        self.assertEqual(best_regime(plan, (3, 3, 0) + NOTHING, (2,) * 10), (((1, 2),), ((1, 2),)))
        for prices, fees in ((ONES, NOTHING), (NOTHING, ONES), (TENS, TENS), (TENS[::-1], TENS), (ONES, ONES)):
            self.require_best(plan, prices, fees)

    def test_a_hold_makes_the_best_one_dearer(self):
        # Who entered before 8 would go round once 7 is done, and hold 9 up: so 7 has to wait for 9, too.
        nodes = (("read", 0, ((0, 1), (2, 0)), 2), ("read", 1, ((0, 0), (1, 3)), 2), ("end", "good"), ("end", "misled"))
        plan = (((0, ((8, 1), (7, 2))), (0, ((9, 1),))), (0,), nodes)
        self.require_dearer(plan, 2, 3)
        nodes = (("read", 1, ((1, 2),), 1), ("read", 0, ((0, 2), (1, 1)), 3), ("end", "good"), ("end", "misled"))
        self.require_dearer((((0, ((9, 1), (4, 2))), (0, ((0, 1),))), (0,), nodes), 2, 4)
        nodes = (("read", 2, ((1, 0),), 1), ("read", 0, ((1, 3),), 2), ("read", 1, ((0, 0), (1, 4)), 1),
                 ("end", "good"), ("end", "misled"))
        self.require_dearer((((0, ((7, 1),)), (0, ((5, 1),)), (0, ((4, 1),))), (0,), nodes), 2, 4)

    def require_dearer(self, plan, calm, good):
        """Assert what the cheapest calm regime costs, and the cheapest good one."""
        prices = [price_plainly(plan, ONES, ONES, *regime) for regime in all_closed(plan)
                  if is_calm_plainly(plan, *regime)]
        self.assertEqual((min(prices), self.require_best(plan, ONES, ONES)), (calm, good))

    def test_some_plans(self):
        chance, told = random.Random(84), set()
        for plan in some_small_plans(85, 120):
            told.add(self.require_best(plan, some_prices(chance), some_prices(chance)))
        self.assertTrue({None, 0} < told and len(told) > 8, told)

    def test_some_plans_of_four_changes(self):
        chance, told = random.Random(86), set()
        for _ in range(15):
            told.add(self.require_best(some_busy_house(chance, OF_FOUR), some_prices(chance), some_prices(chance)))
        self.assertTrue({None, 0} < told)

    def test_tables_with_holds(self):
        chance, kinds = random.Random(87), set()
        for _ in range(400):
            plan = some_busy_house(chance, UP_TO_THREE)
            entries = lost_table(plan)
            if entries is not None and len(entries) > 3:
                self.require_lost(plan, entries)
                kinds |= {len(entry) for entry in entries}
        self.assertEqual(kinds, {3, 4})


class LimitsTest(unittest.TestCase):
    def test_small_plans(self):
        for rows in ((), (0,), (0, 1, 2)), ((0,), (1,), (2,), ()), ((0,), (1,), (2,)), ((0, 1), (2, 3)), \
                ((0, 1, 2, 3),), ((), (0,), (), (1, 2, 3)), ((), ()), ((0, 1), (), (2, 3)):
            plan = plan_of(*rows)
            self.assertEqual(least_worth(plan, ONES, ONES), 0)
            self.assertEqual(best_regime(plan, ONES, ONES), regime_of(plan, (), ()))
            self.assertIsNone(lost_table(plan))

    def test_plans_that_are_not_small(self):
        for rows in ((0,), (1,), (2,), (3,)), ((0, 1), (2,), (3,)), ((0,), (), (1, 2), (3,)), ((0, 1, 2, 3), (4,)), \
                ((0, 1), (2, 3), (4,)), ((0, 1, 2, 3), (4, 5, 6, 7)):
            plan = plan_of(*rows)
            for call, *more in ((least_worth, ONES, ONES), (best_regime, ONES, ONES), (lost_table,)):
                self.assertEqual(raised(TooMany, call, plan, *more).limit, 4)
            self.assertEqual(regime_price(plan, ONES, ONES, (), ()), 0)

    def test_the_greatest_small_plans_take_seconds(self):
        chance, before = random.Random(88), time.perf_counter()
        for sizes in ((2, 2), (3, 1), (4, 0)):
            names = iter(range(4))
            signs = tuple((0, tuple((next(names), k + 1) for k in range(size))) for size in sizes)
            for _ in range(6):
                nodes = tuple(("read", chance.randrange(2), tuple((value, chance.randint(0, 11)) for value in range(3)),
                               chance.randint(0, 10)) for _ in range(10)) + (("end", "good"), ("end", "misled"))
                plan = (signs, tuple(range(5)), nodes)
                self.assertEqual(least_worth(plan, TENS, TENS) is None, lost_table(plan) is not None)
        self.assertTrue(time.perf_counter() - before < 20)

    def test_the_arguments_are_the_same_afterwards(self):
        for plan in some_small_plans(89, 15):
            case = (plan, TENS, ONES)
            before = copy.deepcopy(case)
            least_worth(*case)
            best_regime(*case)
            lost_table(plan)
            regime_price(*case, (), ())
            self.assertEqual(repr(case), repr(before))


if __name__ == "__main__":
    unittest.main()
