"""Claims: which are valid, and the certificates that decide them."""

import copy
import itertools
import random
import unittest

from leavefirst.claims import decide, require_claim
from leavefirst.errors import InvalidClaim
from leavefirst.fees import least_worth
from leavefirst.regimes import regime_of
from tests.helper import HOUSE, ODD, deep, has_round, is_plain, plan_of, raised, some_cases, some_pairs
from tests.naive import some_ruled
from tests.plain import (
    ONES, all_closed, barred_of, is_calm_plainly, is_good, is_right, is_true, price_plainly, some_busy_house,
)

WAITS, DRAINS = ((2, 0),), ((0, 1),)
RING = (((0, ((0, 1),)), (0, ((1, 1),))), (0,), (("read", 0, ((1, 1),), 0), ("end", "good")))
ALL_PAIRS = tuple(itertools.permutations(range(10), 2))
UPWARD = tuple((a, b) for a, b in ALL_PAIRS if a < b)
FIVE, SIX = plan_of((0, 1), (2, 3), (4,)), plan_of((0, 1), (2, 3), (4, 5))
FOUR_IN_TWO, FOUR_IN_THREE = plan_of((0, 1), (), (2, 3)), plan_of((0, 1), (2,), (3,))
SHAPES = ((1, 1, 1), (2, 1), (1, 2), (1, 1), (3,), (2,), (1, 0, 1, 1))
# No tuples of pairs of different names from 0 to 9, strictly ascending, each for a reason of its own.
NO_PAIRS = (
    [], [(0, 1)], ([0, 1],), ((0, 1, 2),), ((0,),), ((),), (0, 1), ((0, 0),), ((9, 9),), ((0, 10),), ((10, 0),),
    ((-1, 0),), ((0, -1),), ((0, True),), ((False, 1),), ((0, 1), (0, 1)), ((0, 2), (0, 1)), ((1, 0), (0, 2)),
    ((0, 1), (1, 2), (1, 2)), ((0, "1"),), (("0", 1),), ((0, None),), ((None, 1),), (None,), None, "", "01", 0, 1, True,
    {}, {(0, 1): True}, ((0, 10 ** 29),), ALL_PAIRS + ((9, 8),), ALL_PAIRS + ((9, 9),), ALL_PAIRS[::-1],
    ALL_PAIRS + ALL_PAIRS, ((0, 1), [1, 2]), ((0, (1,)),), (((0,), 1),),
)


class RequireCase(unittest.TestCase):
    def require_valid(self, plan, *claims):
        for claim in claims:
            self.assertIsNone(require_claim(plan, claim))
            self.assertIn(decide(plan, claim)[0], ("shown", "broken"))

    def require_invalid(self, plan, *claims):
        for claim in claims:
            before = repr(claim)
            self.assertIsNotNone(raised(InvalidClaim, require_claim, plan, claim), claim)
            self.assertIsNotNone(raised(InvalidClaim, decide, plan, claim), claim)
            self.assertEqual(repr(claim), before)


class RequireTest(RequireCase):
    def test_right_ones(self):
        self.require_valid(
            HOUSE, ("calm", (), ()), ("calm", WAITS, DRAINS), ("ends", WAITS, DRAINS), ("asks", WAITS, DRAINS),
            ("asks", (), ()), ("worth", 0), ("worth", 5), ("worth", 2000), ("lost",))
        self.assertIsNone(require_claim(claim=("lost",), plan=HOUSE))

    def test_pairs_that_are_none(self):
        for word in ("calm", "ends", "asks"):
            for wrong in NO_PAIRS:
                self.require_invalid(HOUSE, (word, wrong, ()), (word, (), wrong), (word, wrong, wrong))

    def test_as_many_pairs_as_there_may_be(self):
        self.assertEqual(len(ALL_PAIRS), 90)
        self.require_valid(HOUSE, ("asks", ALL_PAIRS, ALL_PAIRS), ("asks", ALL_PAIRS, ()), ("asks", (), ALL_PAIRS))
        self.require_valid(HOUSE, ("calm", UPWARD, UPWARD), ("ends", UPWARD, UPWARD))
        for k in range(90):
            doubled = ALL_PAIRS[:k + 1] + ALL_PAIRS[k:]
            self.require_invalid(HOUSE, ("asks", doubled, ()), ("asks", (), doubled))

    def test_tuples_too_long_and_too_short(self):
        for word in ("calm", "ends", "asks"):
            self.require_invalid(HOUSE, (word,), (word, ()), (word, (), (), ()), (word, 0), [word, (), ()])
        self.require_invalid(HOUSE, ("worth",), ("worth", 0, 0), ("worth", (), ()), ["worth", 0], ("worth", (0,)))
        self.require_invalid(HOUSE, ("lost", ()), ("lost", 0), ["lost"], "lost", ("lost", (), ()), ("lost", None), ())

    def test_words(self):
        for word in ("Calm", "calm ", "", "good", "shown", "broken", None, 0, True, (), ("calm",), ["calm"], {}, -1):
            self.require_invalid(HOUSE, (word, (), ()), (word, 0), (word,), word)

    def test_numbers(self):
        for wrong in (-1, 2001, True, False, None, "5", (5,), [5], -10 ** 29, 10 ** 29, 10 ** 30 - 1):
            self.require_invalid(HOUSE, ("worth", wrong))
        self.require_valid(HOUSE, ("worth", 0), ("worth", 1), ("worth", 1999), ("worth", 2000))

    def test_any_value(self):
        for value in ODD + (deep(0, 40), deep("lost", 40), deep(("lost",), 40), "x" * 200000, (0,) * 200000):
            self.require_invalid(HOUSE, value, (value,), (value, value), ("calm", value, value) if value != () else 0,
                                 ("worth", value) if value not in (0, 1) or value.__class__ is bool else 0,
                                 ("lost", value), ("asks", value, ((0, 0),)), ("ends", ((0, 0),), value))
        self.require_invalid(HOUSE, [deep(k, 39) for k in range(1000)], {"lost": ("lost",)}, (("lost",),), [("lost",)])

    def test_rounds(self):
        for waits, drains in ((((0, 1), (1, 0)), ()), ((), ((0, 1), (1, 0))), (((0, 1),), ((1, 0),)),
                              (((7, 8), (8, 7)), ()), (UPWARD, ((9, 0),)), (((0, 8), (8, 9)), ((9, 0),))):
            self.require_invalid(HOUSE, ("calm", waits, drains), ("ends", waits, drains))
            self.require_valid(HOUSE, ("asks", waits, drains))
        # The order of a sign makes a round, too.
        plan = plan_of((0, 1), (2,))
        self.require_invalid(plan, ("calm", ((1, 0),), ()), ("ends", (), ((1, 0),)), ("calm", ((1, 2),), ((2, 0),)))
        self.require_valid(plan, ("asks", ((1, 0),), ()), ("asks", ((1, 2),), ((2, 0),)))

    def test_some_rounds(self):
        for plan, waits, drains in some_cases(91, 200):
            if sum(len(changes) for _, changes in plan[0]) <= 5:
                for word in ("calm", "ends"):
                    told = raised(InvalidClaim, require_claim, plan, (word, waits, drains))
                    self.assertIs(told is not None, has_round(plan, waits, drains))

    def test_five_changes_for_calm_and_ends(self):
        self.require_valid(FIVE, ("calm", (), ()), ("ends", (), ((0, 2),)))
        for plan in (SIX, plan_of((0, 1, 2, 3), (4, 5, 6, 7))):
            self.require_invalid(plan, ("calm", (), ()), ("ends", (), ()))

    def test_small_plans_for_the_others(self):
        others = (("asks", (), ()), ("worth", 0), ("lost",))
        for plan in (FOUR_IN_TWO, plan_of((0, 1, 2, 3)), plan_of((0,), (1,), (2,)), plan_of(())):
            self.require_valid(plan, *others, ("calm", (), ()), ("ends", (), ()))
        for plan in (FOUR_IN_THREE, plan_of((0,), (1,), (2,), (3,)), plan_of((0, 1, 2, 3), (4,))):
            self.require_invalid(plan, *others)
            self.require_valid(plan, ("calm", (), ()), ("ends", (), ()))
        self.require_invalid(SIX, *others)


class DecideCase(unittest.TestCase):
    def require_decided(self, plan, claim, **more):
        """Assert that the right word comes with a certificate of the forms that is right; return the certificate."""
        prices, fees = more.get("prices", ONES), more.get("fees", ONES)
        told = decide(plan, claim, **more)
        self.assertTrue(is_plain(told) and len(told) == 3)
        self.assertEqual(told[1], claim)
        self.assertEqual(told[0], "shown" if is_true(plan, claim, prices, fees) else "broken")
        self.require_form(plan, *told)
        self.assertTrue(is_right(plan, told, prices, fees))
        return told

    def require_form(self, plan, word, claim, body):
        """Assert that the certificate has the parts that point 17 tells."""
        many = {
            ("broken", "calm"): 2, ("broken", "ends"): 3, ("broken", "asks"): 2, ("shown", "worth"): 3,
            ("broken", "lost"): 2,
        }.get((word, claim[0]))
        if (word, claim[0]) == ("broken", "worth"):
            self.assertIn((body[0], len(body)), (("less", 3), ("more", 2)))
        elif many is not None:
            self.assertEqual(len(body), many)
        elif claim[0] in ("asks", "lost"):
            self.assertTrue(all(len(entry) in (3, 4) for entry in body))
        else:
            self.assertTrue(all(len(state) == 3 and state[0] in range(len(plan[2])) for state in body))


class DecideTest(DecideCase):
    def test_the_example(self):
        told = [decide(HOUSE, claim)[0] for claim in (("asks", (), ((0, 1),)), ("lost",), ("calm", WAITS, ()))]
        self.assertEqual(told, ["shown", "broken", "broken"])
        self.assertEqual(decide(fees=ONES, prices=ONES, claim=("lost",), plan=HOUSE), decide(HOUSE, ("lost",)))

    def test_calm(self):
        self.assertEqual(self.require_decided(HOUSE, ("calm", WAITS, DRAINS))[0], "shown")
        self.assertEqual(self.require_decided(HOUSE, ("calm", WAITS, ())),
                         ("broken", ("calm", WAITS, ()), (0, (0, 1))))
        # A ring is no matter of calm.
        self.assertEqual(self.require_decided(RING, ("calm", (), ((1, 0),)))[0], "shown")

    def test_ends(self):
        self.assertEqual(self.require_decided(RING, ("ends", (), ((1, 0),)))[2][:2], ((0, 1), 0))
        self.assertEqual(self.require_decided(RING, ("ends", (), ((0, 1),)))[0], "shown")
        # Misled ends are no matter of ends.
        table = self.require_decided(HOUSE, ("ends", WAITS, ()))[2]
        self.assertTrue(any(state[0] == 4 for state in table))

    def test_asks(self):
        for pairs, word in (((), "broken"), (((0, 1),), "shown"), (((0, 2),), "broken"), (((1, 0),), "broken"),
                            (((2, 1),), "shown"), (((1, 0), (2, 1)), "shown"), (ALL_PAIRS, "shown")):
            self.assertEqual(self.require_decided(HOUSE, ("asks", pairs, ()))[0], word)
            self.assertEqual(self.require_decided(HOUSE, ("asks", (), pairs))[0], word)
        self.assertEqual(self.require_decided(HOUSE, ("asks", ((2, 0),), ()))[0], "shown")
        self.assertEqual(self.require_decided(HOUSE, ("asks", (), ((2, 0),)))[0], "broken")

    def test_asks_of_what_each_regime_has(self):
        plan = plan_of((3, 4), (5,))
        self.assertEqual(self.require_decided(plan, ("asks", ((3, 4),), ())), ("shown", ("asks", ((3, 4),), ()), ()))
        self.assertEqual(self.require_decided(plan, ("asks", (), ((3, 4),)))[0], "broken")
        self.assertEqual(self.require_decided(plan, ("asks", ((8, 9),), ((8, 9),)))[0], "broken")

    def test_worth(self):
        told = self.require_decided(HOUSE, ("worth", 5))
        self.assertEqual((told[0], told[2][0]), ("shown", regime_of(HOUSE, WAITS, DRAINS)))
        for n in (0, 1, 4):
            self.assertEqual(self.require_decided(HOUSE, ("worth", n))[2][0], "more")
        for n in (6, 7, 2000):
            self.assertEqual(self.require_decided(HOUSE, ("worth", n))[2][0], "less")

    def test_worth_of_nothing(self):
        plan = plan_of((3, 4), (5,))
        self.assertEqual(self.require_decided(plan, ("worth", 0))[2][2], ())
        self.assertEqual(self.require_decided(plan, ("worth", 1))[2][0], "less")

    def test_worth_of_a_lost_plan(self):
        plan = (((0, ()),), (0,), (("end", "misled"),))
        for n in (0, 1, 2000):
            told = self.require_decided(plan, ("worth", n))
            self.assertEqual(told, ("broken", ("worth", n), ("more", ((((), ()), 0, ()),))))

    def test_lost(self):
        plan = (((0, ()),), (0,), (("end", "misled"),))
        self.assertEqual(self.require_decided(plan, ("lost",)), ("shown", ("lost",), ((((), ()), 0, ()),)))
        self.assertEqual(self.require_decided(plan, ("asks", (), ())), ("shown", ("asks", (), ()), ((((), ()), 0, ()),)))
        self.assertEqual(self.require_decided(HOUSE, ("lost",))[0], "broken")

    def test_prices_and_fees(self):
        nothing, nines = (0,) * 10, (99,) * 10
        for prices, fees, worth in ((ONES, nothing, 3), (nothing, ONES, 2), (nines, nines, 495), (nothing, nothing, 0),
                                    ((1, 10, 2) + nothing[3:], (1, 5, 2) + nothing[3:], 31)):
            for n, word in ((worth, "shown"), (worth + 1, "broken"), (max(worth - 1, 0), "broken" if worth else "shown")):
                self.assertEqual(self.require_decided(HOUSE, ("worth", n), prices=prices, fees=fees)[0], word)
        self.assertEqual(self.require_decided(HOUSE, ("worth", 3 + 2 * 7), fees=(7,) * 10)[0], "shown")
        self.assertEqual(self.require_decided(HOUSE, ("worth", 3 * 7 + 2), prices=(7,) * 10)[0], "shown")
        self.assertIsNotNone(raised(TypeError, decide, HOUSE, ("worth", 5), ONES))
        self.assertIsNotNone(raised(TypeError, decide, HOUSE, ("worth", 5), ONES, ONES))

    def test_prices_and_fees_are_ones_for_all_names(self):
        for k in range(10):
            signs = tuple((value, (((name + k) % 10, new),)) for value, ((name, new),) in HOUSE[0])
            told = self.require_decided((signs, *HOUSE[1:]), ("worth", 5))
            self.assertEqual(told[0], "shown")

    def test_the_others_do_not_depend_on_prices(self):
        for claim in (("lost",), ("asks", (), ((0, 1),)), ("asks", ((0, 1),), ()), ("calm", WAITS, DRAINS),
                      ("ends", WAITS, DRAINS)):
            self.require_decided(HOUSE, claim, prices=(0,) * 10, fees=(99,) * 10)

    def test_some_claims_on_states(self):
        chance, kinds = random.Random(92), set()
        for k in range(300):
            plan, waits, drains = some_ruled(chance, 5, 5)
            if k % 2:
                plan = some_busy_house(chance, SHAPES + ((2, 2, 1), (1, 1, 1, 1)))
            if has_round(plan, waits, drains):
                continue
            for word in ("calm", "ends"):
                told = self.require_decided(plan, (word, waits, drains))
                kinds.add((told[0], word, bool(barred_of(plan, waits, drains))))
        self.assertEqual(len(kinds), 7)

    def test_some_claims_on_regimes(self):
        chance, kinds = random.Random(93), set()
        for _ in range(150):
            plan = some_busy_house(chance, SHAPES)
            names = sorted(name for _, changes in plan[0] for name, _ in changes)
            pairs = [tuple(sorted(chance.sample(list(itertools.permutations(names, 2)), k))) if len(names) > 1 else ()
                     for k in (chance.randint(0, 2), chance.randint(0, 2))]
            claims = [("asks", *pairs), ("asks", some_pairs(chance, 3), some_pairs(chance, 3)), ("lost",)]
            for claim in claims:
                kinds.add((self.require_decided(plan, claim)[0], claim[0]))
            prices, fees = [tuple(chance.randint(0, 5) for _ in range(10)) for _ in range(2)]
            least = least_worth(plan, prices, fees)
            for n in {chance.randint(0, 9), (least or 0) + 1, least or 0, max((least or 0) - 1, 0)}:
                told = self.require_decided(plan, ("worth", n), prices=prices, fees=fees)
                kinds.add((told[0], "worth", told[2][0] if told[0] == "broken" else bool(told[2][2])))
        self.assertEqual(kinds, {("shown", "asks"), ("broken", "asks"), ("shown", "lost"), ("broken", "lost"),
                                 ("broken", "worth", "less"), ("broken", "worth", "more"), ("shown", "worth", True),
                                 ("shown", "worth", False)})

    def test_by_all_regimes_of_the_house(self):
        good = [regime for regime in all_closed(HOUSE) if is_good(HOUSE, *regime)]
        self.assertEqual(min(price_plainly(HOUSE, ONES, ONES, *regime) for regime in good), 5)
        self.assertTrue(all(is_calm_plainly(HOUSE, *regime) for regime in good))

    def test_the_arguments_are_the_same_afterwards(self):
        prices, fees = (3,) * 10, (4,) * 10
        for claim in (("calm", WAITS, DRAINS), ("ends", WAITS, ()), ("asks", (), DRAINS), ("worth", 7), ("lost",)):
            case = (HOUSE, claim, prices, fees)
            before = copy.deepcopy(case)
            require_claim(HOUSE, claim)
            decide(HOUSE, claim, prices=prices, fees=fees)
            self.assertEqual(repr(case), repr(before))


if __name__ == "__main__":
    unittest.main()
