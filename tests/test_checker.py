"""The checker: None for right certificates, and the first fault of all others."""

import copy
import itertools
import random
import time
import unittest

from leavefirst.checker import first_fault
from leavefirst.claims import decide
from leavefirst.fees import lost_table
from leavefirst.holding import holder
from leavefirst.reached import bewildering, reached_states
from leavefirst.regimes import more_regimes, regime_of
from tests.changing import changed, some_mixed_certificate
from tests.faults import fault_of
from tests.helper import HOUSE, ODD, deep, has_round, is_plain, plan_of
from tests.naive import all_cuts, is_state, led_to, some_ruled
from tests.plain import ONES, all_closed, barred_of, is_good, price_plainly, some_busy_house

WAITS, DRAINS = ((2, 0),), ((0, 1),)
GOOD = regime_of(HOUSE, WAITS, DRAINS)
RING = (((0, ((0, 1),)), (0, ((1, 1),))), (0,), (("read", 0, ((1, 1),), 0), ("end", "good")))
SHAPES = ((1, 1, 1), (2, 1), (1, 1), (3,), (2,), (1, 0, 1, 1))
# Who has read the first sign's old value must not read the second one's new one, but goes round till it does.
LOST = (((0, ((0, 1),)), (0, ((1, 1),))), (0,), (
    ("read", 0, ((0, 1),), 2), ("read", 1, ((0, 1),), 3), ("end", "good"), ("end", "misled")))
CALM, ENDS = ("calm", WAITS, DRAINS), ("ends", WAITS, DRAINS)


def decided(plan, claim, **more):
    """Return the parts of the certificate of a claim."""
    return decide(plan, claim, **more)


def all_states(plan, waits, drains):
    """Return the ascending tuple of all states, reached or not."""
    cuts = all_cuts(plan, waits, drains)
    return tuple(state for state in itertools.product(range(len(plan[2])), cuts, cuts)
                 if is_state(plan, waits, drains, state))


def without(row, k):
    return row[:k] + row[k + 1:]


class CheckerCase(unittest.TestCase):
    def require_fault(self, plan, certificate, fault, **more):
        """Assert that this is the first fault, here and by the plain definition, and that nothing is modified."""
        before = repr(certificate)
        self.assertEqual(first_fault(plan, certificate, **more), fault)
        self.assertEqual(fault_of(plan, certificate, more.get("prices", ONES), more.get("fees", ONES)), fault)
        self.assertEqual(repr(certificate), before)

    def require_forms(self, plan, *certificates):
        for certificate in certificates:
            self.require_fault(plan, certificate, ("form",))


class RightTest(CheckerCase):
    def test_the_example(self):
        self.assertEqual(first_fault(HOUSE, ("broken", CALM, (0, (0, 1)))), ("possible",))
        self.assertEqual(first_fault(fees=ONES, prices=ONES, certificate=("broken", CALM, (0, (0, 1))), plan=HOUSE),
                         ("possible",))

    def test_each_kind_with_each_word(self):
        cases = {
            ("shown", "calm"): (HOUSE, CALM), ("broken", "calm"): (HOUSE, ("calm", WAITS, ())),
            ("shown", "ends"): (HOUSE, ENDS), ("broken", "ends"): (RING, ("ends", (), ((1, 0),))),
            ("shown", "asks"): (HOUSE, ("asks", (), ((0, 1),))), ("broken", "asks"): (HOUSE, ("asks", (), ((1, 0),))),
            ("shown", "worth"): (HOUSE, ("worth", 5)), ("broken", "worth"): (HOUSE, ("worth", 4)),
            ("shown", "lost"): (LOST, ("lost",)), ("broken", "lost"): (HOUSE, ("lost",)),
        }
        for (word, kind), (plan, claim) in cases.items():
            told = decide(plan, claim)
            self.assertEqual((told[0], told[1][0]), (word, kind))
            self.require_fault(plan, told, None)
            self.assertIsNotNone(first_fault(plan, (("shown", "broken")[word == "shown"], *told[1:])))
        self.require_fault(HOUSE, decide(HOUSE, ("worth", 6)), None)
        self.assertEqual(decide(HOUSE, ("worth", 6))[2][0], "less")

    def test_some_plans(self):
        chance, words = random.Random(101), set()
        for _ in range(120):
            plan = some_busy_house(chance, SHAPES)
            regime = chance.choice(all_closed(plan))
            prices, fees = [tuple(chance.randint(0, 3) for _ in range(10)) for _ in range(2)]
            for claim in (("calm", *regime), ("ends", *regime), ("lost",), ("asks", regime[0][:2], regime[1][:1]),
                          ("worth", chance.randint(0, 4))):
                told = decide(plan, claim, prices=prices, fees=fees)
                self.assertIsNone(first_fault(plan, told, prices=prices, fees=fees))
                turned = (("shown", "broken")[told[0] == "shown"], *told[1:])
                self.assertIsNotNone(first_fault(plan, turned, prices=prices, fees=fees))
                words.add((told[0], claim[0]))
        self.assertEqual(len(words), 10)

    def test_five_changes(self):
        chance = random.Random(102)
        for _ in range(40):
            plan, waits, drains = some_ruled(chance, 5, 6)
            for word in ("calm", "ends"):
                self.require_fault(plan, decide(plan, (word, waits, drains)), None)

    def test_more_entries_than_are_needed(self):
        states = all_states(HOUSE, *CALM[1:])
        rest = tuple(state for state in states if led_to(HOUSE, *CALM[1:], state) == [] and state[0] == 3)
        table = tuple(sorted(set(reached_states(HOUSE, *CALM[1:])) | set(rest)))
        self.assertTrue(len(table) > len(reached_states(HOUSE, *CALM[1:])))
        self.require_fault(HOUSE, ("shown", CALM, table), None)
        self.require_fault(HOUSE, ("shown", ENDS, states), None)
        bad = [regime for regime in all_closed(HOUSE) if not is_good(HOUSE, *regime)]
        entries = tuple((regime, *(bewildering(HOUSE, *regime) or holder(HOUSE, *regime))) for regime in bad)
        cheap = tuple(entry for entry in entries if price_plainly(HOUSE, ONES, ONES, *entry[0]) < 5)
        self.assertTrue(len(entries) > len(cheap) > len(decide(HOUSE, ("worth", 5))[2][2]))
        self.require_fault(HOUSE, ("broken", ("worth", 4), ("more", cheap)), None)
        self.require_fault(HOUSE, ("shown", ("asks", (), ((0, 1),)), cheap),
                           fault_of(HOUSE, ("shown", ("asks", (), ((0, 1),)), cheap)))

    def test_sights_that_are_left_over(self):
        self.require_fault(HOUSE, ("broken", ("calm", WAITS, ()), (0, (0, 1) + (4,) * 118)), None)
        self.require_fault(HOUSE, ("broken", ("calm", WAITS, ()), (0, (0, 1) + (4,) * 119)), ("form",))


class ClaimTest(CheckerCase):
    def test_claims_that_are_none(self):
        table = decide(HOUSE, CALM)[2]
        for claim in ODD + (("calm", WAITS), ("calm", [], ()), ("worth", 2001), ("worth", True), ("lost", ()), "lost",
                            ("calm", ((1, 0),), ((0, 1),)), ["lost"], deep(0, 40)):
            for word in ("shown", "broken", "", None, 1, [], deep("shown", 30)):
                for body in (table, (), None, [], (0, (0, 1)), deep((), 30)):
                    self.assertEqual(first_fault(HOUSE, (word, claim, body)), ("claim",))

    def test_claims_that_are_not_valid(self):
        six, five = plan_of((0, 1), (2, 3), (4, 5)), plan_of((0, 1), (2, 3), (4,))
        for claim in (("calm", (), ()), ("ends", (), ()), ("asks", (), ()), ("worth", 0), ("lost",)):
            self.require_fault(six, ("shown", claim, ()), ("claim",))
        for claim in (("asks", (), ()), ("worth", 0), ("lost",)):
            self.require_fault(five, ("shown", claim, ()), ("claim",))
        self.require_fault(HOUSE, ("shown", ("ends", ((0, 1), (1, 2)), ((2, 0),)), ()), ("claim",))

    def test_only_triples(self):
        for value in (("shown", ("lost", 1)), ("shown", ("lost", 1), (), ()), ["shown", ("lost", 1), ()], (), (("lost", 1),)):
            self.require_forms(HOUSE, value)


class FormTest(CheckerCase):
    def test_any_value(self):
        for value in ODD + (deep(0, 40), deep((), 39), "x" * 200000, (0,) * 200000, [deep(k, 30) for k in range(500)]):
            self.require_forms(HOUSE, value, [value, value, value], {"shown": value})
            for claim in (CALM, ENDS, ("lost",), ("worth", 5), ("asks", (), ())):
                self.require_forms(HOUSE, (value, claim, ()), (claim[0], claim, ()), (value, claim, value),
                                   ("shown", claim, (value,)), ("broken", claim, (value,)),
                                   ("broken", claim, (value, value)), ("broken", claim, ("less", value, value)),
                                   ("shown", claim, (value, value, value)), ("broken", claim, ("more", (value,))))

    def test_words(self):
        table = decide(HOUSE, CALM)[2]
        for word in ("Shown", "shown ", "", None, True, 1, ("shown",), ["shown"]):
            self.require_forms(HOUSE, (word, CALM, table))
        self.require_forms(HOUSE, ("broken", CALM, table), ("shown", ("calm", WAITS, ()), (0, (0, 1))))
        less = decide(HOUSE, ("worth", 6))
        for word in ("Less", "more", "", None, 1, True, (), ["less"]):
            self.require_forms(HOUSE, ("broken", ("worth", 6), (word, *less[2][1:])))
        more = decide(HOUSE, ("worth", 4))
        for word in ("Less", "less", "", None, 1, True, (), ["more"]):
            self.require_forms(HOUSE, ("broken", ("worth", 4), (word, *more[2][1:])))

    def test_states(self):
        table = decide(HOUSE, CALM)[2]
        node, entered, versions = table[-1]
        for state in ((5, entered, versions), (-1, entered, versions), (True, entered, versions), ("0", entered, versions),
                      [node, entered, versions], (node, entered), (node, list(entered), versions),
                      (node, entered, versions, ()), (node, entered, list(versions)), (node, entered, versions[:2]),
                      (node, (0, 0, 0, 0), versions), (node, entered, (1, 0, True)), (node, (False, 0, 0), versions),
                      (node, (1, 0, 0), (1, 0, 1)), (node, (0, 0, 0), (2, 0, 1)), (node, (0, 0, 0), (1, 0, 0)),
                      (node, (0, 0, 1), (0, 0, 0)), (node, (0, 0, 0), (1, 1, 1)), (node, (0, 0, -1), (0, 0, 1)), None):
            for k in (0, len(table)):
                self.require_forms(HOUSE, ("shown", CALM, table[:k] + (state,) + table[k:]))
                self.require_forms(HOUSE, ("shown", ENDS, (state,)), ("broken", ("lost",), (GOOD, (state,))))
                self.require_forms(HOUSE, ("shown", ("worth", 5), (GOOD, (state,), ())))
        self.require_forms(HOUSE, ("shown", CALM, table[::-1]), ("shown", CALM, list(table)),
                           ("shown", CALM, table[:1] + table), ("shown", CALM, table + table[-1:]),
                           ("shown", CALM, table[1:2] + table[:1] + table[2:]))

    def test_regimes(self):
        table = reached_states(HOUSE, *GOOD)
        order, drained = GOOD
        for regime in ((order, drained[:1]), (order[:1], drained), ([*order], drained), (order, [*drained]), [*GOOD],
                       (order,), (order, drained, ()), (order[::-1], drained), (order, drained[::-1]), (order + order, ()),
                       (WAITS, DRAINS), (order, ((0, True), (2, 1))), (((False, 1), (2, 0), (2, 1)), drained), None,
                       (((0, 1), (1, 0)), ()), (((0, 1), (2, 0), (2, 1), (8, 9)), drained), (order, ()) + ((),)):
            self.require_forms(HOUSE, ("broken", ("lost",), (regime, table)), ("broken", ("asks", (), ()), (regime, ())),
                               ("shown", ("lost",), ((regime, 0, (0, 1)),)),
                               ("shown", ("asks", (), ()), ((regime, (0, 0, 0), 0, (0, 1)),)),
                               ("broken", ("worth", 9), ("less", regime, table)),
                               ("shown", ("worth", 5), (regime, table, ())),
                               ("broken", ("worth", 9), ("more", ((regime, 0, (0, 1)),))))

    def test_starts_and_sights(self):
        plan = (HOUSE[0], (0, 1), HOUSE[2])
        claims = (("calm", WAITS, ()), lambda start, sights: (start, sights)), \
            (("ends", (), ((0, 1),)), lambda start, sights: ((1, 0, 1), start, sights))
        for claim, made in claims:
            for start in (2, 3, 5, -1, True, False, "0", None, (0,), [0], 10 ** 29):
                self.require_forms(plan, ("broken", claim, made(start, (0, 1))))
            for sights in ([], [0, 1], (0, 5), (-1,), (0, True), (False,), ("0",), (None,), ((0,),), 0, None, "01",
                           (0, 1) + (0,) * 119, (0,) * 121, (10 ** 29,)):
                self.require_forms(plan, ("broken", claim, made(0, sights)))
            self.assertNotEqual(first_fault(plan, ("broken", claim, made(1, (0, 4) * 60))), ("form",))

    def test_cuts(self):
        claim = ("ends", WAITS, DRAINS)
        for versions in ((1, 0, 0), (0, 1, 0), (1, 0), (1, 0, 1, 0), [1, 0, 1], (1, 0, 2), (1, 0, -1), (True, 0, 1),
                         (1, False, 1), (), None, 0, "101", ((1, 0, 1),)):
            self.require_forms(HOUSE, ("broken", claim, (versions, 0, ())))
            self.require_forms(HOUSE, ("shown", ("lost",), ((GOOD, versions, 0, ()),)))
        self.require_fault(HOUSE, ("broken", claim, ((1, 0, 1), 0, ())), ("end",))

    def test_entries(self):
        entries = decide(HOUSE, ("worth", 5))[2][2]
        self.assertTrue(len(entries) > 1)
        for wrong in (entries[::-1], list(entries), entries[:1] + entries, (*entries, ()), (*entries, None),
                      entries[1:2] + entries[:1] + entries[2:], (entries[0][:2], *entries[1:]), ([*entries[0]], *entries[1:]),
                      ((*entries[0], ()), *entries[1:]), entries + ((entries[-1][0], 0, (0, 1)),), ((), *entries)):
            self.require_forms(HOUSE, ("shown", ("lost",), wrong), ("shown", ("worth", 5), (GOOD, (), wrong)),
                               ("broken", ("worth", 4), ("more", wrong)), ("shown", ("asks", (), ()), wrong))

    def test_the_whole_certificate_is_looked_through_first(self):
        regime, table, entries = decide(HOUSE, ("worth", 5))[2]
        # Each of these has other faults ahead of the one of form.
        self.require_forms(HOUSE, ("shown", ("worth", 7), (regime, table[1:], (*entries, None))),
                           ("shown", ("worth", 7), (regime, (*table[1:], None), entries)),
                           ("shown", CALM, (*table[1:], [])), ("broken", ("asks", GOOD[0], ()), (GOOD, (*table, 0))),
                           ("shown", ("lost",), (*entries[1:], 0)))

    def test_long_values_take_seconds(self):
        before = time.perf_counter()
        state = (0, (0, 0, 0), (0, 0, 0))
        for body in ((state,) * 12000, ((GOOD, 0, (0, 1)),) * 6000, (((), ()),) * 40000):
            for claim in (("calm", (), ()), ("lost",), ("asks", (), ())):
                self.assertEqual(first_fault(HOUSE, ("shown", claim, body)), ("form",))
        self.assertTrue(time.perf_counter() - before < 10)


class StatesTest(CheckerCase):
    def test_start_states_that_lack(self):
        for claim in (CALM, ENDS):
            table = decide(HOUSE, claim)[2]
            first = (0, (0, 0, 0), (0, 0, 0))
            self.require_fault(HOUSE, ("shown", claim, ()), ("start", first))
            self.require_fault(HOUSE, ("shown", claim, table[1:]), ("start", first))
            for state in ((0, (1, 0, 1), (1, 0, 1)), (0, (0, 0, 1), (0, 0, 1))):
                some = tuple(other for other in table if other != state)
                self.require_fault(HOUSE, ("shown", claim, some), ("start", state))
                # The least of those that lack.
                both = tuple(other for other in some if other != (0, (1, 1, 1), (1, 1, 1)))
                self.require_fault(HOUSE, ("shown", claim, both), ("start", state))

    def test_states_that_lack_behind_others(self):
        table = decide(HOUSE, CALM)[2]
        starts = [(0, cut, cut) for cut in all_cuts(HOUSE, WAITS, DRAINS)]
        for k, state in enumerate(table):
            if state not in starts:
                fault = first_fault(HOUSE, ("shown", CALM, without(table, k)))
                self.require_fault(HOUSE, ("shown", CALM, without(table, k)), fault)
                self.assertEqual(fault[0], "lead")
                self.assertIn(state, led_to(HOUSE, WAITS, DRAINS, without(table, k)[fault[1]]))

    def test_misled_states(self):
        table = reached_states(HOUSE, WAITS, ())
        k = [state[0] for state in table].index(4)
        self.require_fault(HOUSE, ("shown", ("calm", WAITS, ()), table), ("misled", k))
        self.require_fault(HOUSE, ("shown", ("ends", WAITS, ()), table), None)
        regime = regime_of(HOUSE, WAITS, ())
        self.require_fault(HOUSE, ("broken", ("lost",), (regime, table)), ("misled", k))
        # Entry by entry: one that lacks goes ahead if it lacks behind an earlier one.
        self.require_fault(HOUSE, ("shown", ("calm", WAITS, ()), without(table, k)),
                           fault_of(HOUSE, ("shown", ("calm", WAITS, ()), without(table, k))))
        extra = tuple(sorted(set(reached_states(HOUSE, WAITS, DRAINS)) | {(4, (0, 0, 0), (0, 0, 0))}))
        at = extra.index((4, (0, 0, 0), (0, 0, 0)))
        self.require_fault(HOUSE, ("shown", CALM, extra), ("misled", at))
        self.require_fault(HOUSE, ("shown", ENDS, extra), None)

    def test_rounds(self):
        regime = ((), ((1, 0),))
        table = reached_states(RING, *regime)
        here = (0, (0, 0), (0, 0))
        self.require_fault(RING, ("shown", ("ends", *regime), table), ("round", (0, 1), table.index(here)))
        self.require_fault(RING, ("shown", ("calm", *regime), table), None)
        closed = regime_of(RING, *regime)
        self.require_fault(RING, ("broken", ("lost",), (closed, table)), ("round", (0, 1), table.index(here)))
        # The least barred cut goes first, then the least state.
        plan = (plan_of((0,), (1,), (2,))[0], (0,), (("read", 0, (), 0), ("read", 1, (), 1)))
        regime = ((), ((0, 1), (1, 2)))
        self.assertEqual(barred_of(plan, *regime), [(1, 0, 0), (1, 1, 0)])
        table = reached_states(plan, *regime)
        self.require_fault(plan, ("shown", ("ends", *regime), table), ("round", (1, 0, 0), 0))
        # Only one behind which the walker entered where that cut lets it.
        table = all_states(plan, *regime)
        self.require_fault(plan, ("shown", ("ends", *regime), table), ("round", (1, 0, 0), 0))

    def test_states_that_no_walker_reaches(self):
        # A state is enough, whoever comes there.
        nodes = (("read", 0, (), 1), ("end", "good"), ("read", 0, (), 2))
        plan = (RING[0], (0,), nodes)
        table = reached_states(plan, (), ((0, 1),))
        self.require_fault(plan, ("shown", ("ends", (), ((0, 1),)), table), None)
        more = table + ((2, (0, 0), (1, 0)),)
        self.require_fault(plan, ("shown", ("ends", (), ((0, 1),)), more), ("round", (1, 0), len(table)))
        self.require_fault(plan, ("shown", ("calm", (), ((0, 1),)), more), None)
        more = table + ((2, (0, 0), (0, 0)), (2, (0, 0), (1, 0)))
        self.require_fault(plan, ("shown", ("ends", (), ((0, 1),)), more), ("round", (1, 0), len(table)))
        more = table + ((2, (0, 0), (0, 0)),)
        self.require_fault(plan, ("shown", ("ends", (), ((0, 1),)), more), ("lead", len(table)))
        # Who goes round, but entered behind what is drained, holds nothing up.
        more = table + ((2, (1, 0), (1, 0)),)
        self.require_fault(plan, ("shown", ("ends", (), ((0, 1),)), more), None)


class WalkTest(CheckerCase):
    def test_walks_that_are_not_misled(self):
        claim = ("calm", (), ())
        for sights in ((), (0,), (0, 0), (1, 1), (0, 4), (4,), (2, 1), (0, 2, 0)):
            self.require_fault(HOUSE, ("broken", claim, (0, sights)), ("outcome",))
        for sights in ((0, 1), (1, 0), (0, 1, 4), (1, 0, 0, 0)):
            self.require_fault(HOUSE, ("broken", claim, (0, sights)), None)

    def test_walks_that_are_not_passable(self):
        self.require_fault(HOUSE, ("broken", ("calm", (), DRAINS), (0, (0, 1))), ("possible",))
        self.require_fault(HOUSE, ("broken", ("calm", WAITS, ()), (0, (1, 0))), ("possible",))
        self.require_fault(HOUSE, ("broken", ("calm", WAITS, ()), (0, (0, 1))), None)

    def test_starts_at_an_end(self):
        plan = (HOUSE[0], (3, 4), HOUSE[2])
        self.require_fault(plan, ("broken", CALM, (3, ())), ("outcome",))
        self.require_fault(plan, ("broken", CALM, (4, ())), None)
        self.require_fault(plan, ("broken", CALM, (4, (4, 4))), None)


class HoldTest(CheckerCase):
    def test_in_order(self):
        claim = ("ends", (), ((1, 0),))
        self.require_fault(RING, ("broken", claim, ((0, 1), 0, ())), None)
        self.require_fault(RING, ("broken", claim, ((0, 1), 0, (0,) * 120)), None)
        for versions in ((0, 0), (1, 1)):
            for sights in ((), (0,), (1,), (4,)):
                self.require_fault(RING, ("broken", claim, (versions, 0, sights)), ("cut",))
        for sights in ((1,), (4,), (0, 1), (0, 0, 1), (2,)):
            self.require_fault(RING, ("broken", claim, ((0, 1), 0, sights)), ("possible",))

    def test_ends(self):
        nodes = (("read", 0, ((0, 1), (1, 2)), 2), ("read", 0, ((0, 1),), 2), ("end", "misled"))
        plan = (RING[0], (0, 1, 2), nodes)
        claim = ("ends", (), ((0, 1),))
        for start, sights in ((0, ()), (0, (0,)), (0, (0, 0)), (1, ()), (1, (0, 0))):
            self.require_fault(plan, ("broken", claim, ((1, 0), start, sights)), ("end",))
        for start, sights in ((2, ()), (2, (0,)), (0, (1,)), (1, (0, 1)), (0, (0, 1, 1))):
            self.require_fault(plan, ("broken", claim, ((1, 0), start, sights)), ("possible",))

    def test_what_is_seen_is_in_the_cut_and_not_taken_back(self):
        nodes = (("read", 0, (), 1), ("read", 1, (), 2), ("read", 2, (), 0))
        plan = (plan_of((0,), (1,), (2,))[0], (0,), nodes)
        claim = ("ends", ((0, 2),), ((2, 1),))
        self.assertEqual(barred_of(plan, *claim[1:]), [(1, 0, 1)])
        for sights in ((), (0, 0, 0), (0, 0, 0, 1, 0, 1), (1, 0, 1), (1, 0, 0, 1, 0, 1)):
            self.require_fault(plan, ("broken", claim, ((1, 0, 1), 0, sights)), None)
        for sights in ((0, 1), (1, 0, 0, 0), (0, 0, 1, 0), (0, 0, 1, 1, 0, 0), (1, 2)):
            self.require_fault(plan, ("broken", claim, ((1, 0, 1), 0, sights)), ("possible",))

    def test_who_enters_behind_what_is_drained(self):
        nodes = (("read", 0, (), 0),)
        plan = (plan_of((0,), (1,), (2,))[0], (0,), nodes)
        claim = ("ends", ((0, 1), (1, 2)), ((0, 1), (1, 2)))
        self.require_fault(plan, ("broken", claim, ((1, 0, 0), 0, (0, 1))), None)
        self.require_fault(plan, ("broken", claim, ((1, 1, 0), 0, (0, 1))), ("possible",))
        self.require_fault(plan, ("broken", claim, ((1, 1, 0), 0, (1, 1))), None)


class RegimesTest(CheckerCase):
    def test_no_entries(self):
        for claim in (("lost",), ("asks", (), ()), ("asks", ((0, 1),), ())):
            self.require_fault(HOUSE, ("shown", claim, ()), ("root",))
        plan = plan_of((3, 4))
        self.require_fault(plan, ("shown", ("asks", ((3, 4),), ()), ()), None)
        self.require_fault(plan, ("shown", ("asks", (), ((3, 4),)), ()), ("root",))

    def test_the_excuse_of_a_price(self):
        empty = reached_states(HOUSE[:1] + ((3,),) + HOUSE[2:], (), ())
        plan = (HOUSE[0], (3,), HOUSE[2])
        self.require_fault(plan, ("shown", ("worth", 0), (((), ()), empty, ())), None)
        self.require_fault(plan, ("broken", ("worth", 0), ("more", ())), ("root",))
        self.require_fault(plan, ("broken", ("worth", 1), ("less", ((), ()), empty)), None)
        self.require_fault(plan, ("broken", ("worth", 0), ("less", ((), ()), empty)), ("price",))

    def test_entries_that_lack(self):
        for claim in (("worth", 5), ("asks", (), ((0, 1),))):
            told = decide(HOUSE, claim)
            entries = told[2][2] if claim[0] == "worth" else told[2]
            for k, entry in enumerate(entries):
                body = without(entries, k)
                body = (*told[2][:2], body) if claim[0] == "worth" else body
                fault = first_fault(HOUSE, ("shown", claim, body))
                self.assertEqual(fault[0], "root" if entry[0] == ((), ()) else fault[0])
                self.assertIn(fault[0], ("root", "wait", "drain"))
                self.require_fault(HOUSE, ("shown", claim, body), fault)

    def test_each_fault_of_a_walk(self):
        entries = lost_table(LOST)
        self.require_fault(LOST, ("shown", ("lost",), entries), None)
        self.assertEqual([len(entry) for entry in entries][:1], [3])
        regime, start, sights = entries[0]
        self.require_fault(LOST, ("shown", ("lost",), ((regime, 0, (1,)), *entries[1:])), ("walk", 0))
        self.require_fault(LOST, ("shown", ("lost",), ((regime, 0, (4,)), *entries[1:])), ("walk", 0))
        drained = [k for k, entry in enumerate(entries) if (0, 1) in entry[0][1]][0]
        wrong = (entries[drained][0], start, sights)
        self.require_fault(LOST, ("shown", ("lost",), entries[:drained] + (wrong,) + entries[drained + 1:]),
                           ("possible", drained))
        self.require_fault(LOST, ("shown", ("lost",), entries[:1]), ("drain", 0, (0, 1)))

    def test_waits_go_ahead_of_drains(self):
        # Old, new, old: the walk has a wait and a drain in its clauses.
        nodes = (("read", 0, ((0, 1),), 3), ("read", 1, ((1, 2),), 3), ("read", 2, ((0, 4),), 3),
                 ("end", "good"), ("end", "misled"))
        plan = (HOUSE[0], (0,), nodes)
        nothing = (((), ()), 0, (0, 1, 0))
        plan = (((0, ((0, 1),)), (0, ((1, 1),)), (0, ((2, 1),))), (0,), nodes)
        self.require_fault(plan, ("shown", ("lost",), (nothing,)), ("wait", 0, (2, 1)))
        self.require_fault(plan, ("shown", ("asks", ((2, 1),), ()), (nothing,)), ("drain", 0, (0, 1)))
        self.require_fault(plan, ("shown", ("asks", ((2, 1),), ((0, 1),)), (nothing,)), None)
        prices = (0, 9, 0) + (0,) * 7
        self.require_fault(plan, ("broken", ("worth", 8), ("more", (nothing,))), None, prices=prices, fees=prices)
        self.require_fault(plan, ("broken", ("worth", 9), ("more", (nothing,))), ("wait", 0, (2, 1)), prices=prices)

    def test_regimes_with_a_round_need_no_entry(self):
        # Behind the wait (1, 0) the wait (0, 1) and the drains of 0 and 1 would be rounds.
        nodes = (("read", 0, ((1, 1),), 2), ("read", 1, ((0, 5),), 4), ("read", 1, ((1, 3),), 4),
                 ("read", 0, ((0, 5),), 4), ("end", "good"), ("end", "misled"))
        plan = (((0, ((0, 1),)), (0, ((1, 1),))), (0, 2), nodes)
        entries = lost_table(plan)
        self.require_fault(plan, ("shown", ("lost",), entries), None)
        self.assertIn(((1, 0),), [entry[0][0] for entry in entries])

    def test_each_fault_of_a_hold(self):
        entries = lost_table(LOST)
        k = [len(entry) for entry in entries].index(4)
        regime, versions, start, sights = entries[k]

        def with_entry(*told):
            return ("shown", ("lost",), entries[:k] + ((regime, *told),) + entries[k + 1:])
        self.require_fault(LOST, with_entry(versions, start, sights), None)
        self.require_fault(LOST, with_entry((0, 0), start, sights), ("cut", k))
        self.require_fault(LOST, with_entry((1, 1), start, sights), ("cut", k))
        self.require_fault(LOST, with_entry(versions, start, (1,)), ("possible", k))
        self.require_fault(LOST, with_entry(versions, start, (0, 1)), ("possible", k))
        self.require_fault(LOST, with_entry(versions, start, ()), ("end", k))

    def test_regimes_that_lack_behind_a_hold(self):
        # From the first start one drain keeps walkers from being misled; from the other one they go round by an old 2.
        nodes = LOST[2] + (("read", 2, ((0, 4),), 2),)
        plan = (LOST[0] + ((0, ((2, 1),)),), (0, 4), nodes)
        root = (((), ()), 0, (0, 1))
        closed = regime_of(plan, (), ((0, 2),))
        hold = (closed, (1, 1, 0), 4, ())
        excused = ("asks", (), ((0, 1),))
        self.require_fault(plan, ("shown", excused, (root,)), None)
        lacks = [more for more in more_regimes(plan, *closed) if (0, 1) not in more[1]]
        self.assertTrue(len(lacks) > 3)
        self.require_fault(plan, ("shown", excused, (root, hold)), ("more", 1, lacks[0]))
        next_hold = tuple(sorted((root, hold, (lacks[0], *holder(plan, *lacks[0])))))
        told = first_fault(plan, ("shown", excused, next_hold))
        self.require_fault(plan, ("shown", excused, next_hold), told)
        self.assertEqual(told[0], "more")
        self.require_fault(plan, ("shown", excused, (root, (closed, (1, 1, 0), 4, (0, 0)))), ("more", 1, lacks[0]))
        # All that come of it by one pair more cost more than nothing.
        prices = (1,) * 10
        self.require_fault(plan, ("broken", ("worth", 0), ("more", (root, hold))), None, prices=prices, fees=prices)

    def test_tables_without_one_of_the_entries(self):
        for plan in (LOST, (LOST[0] + ((0, ((2, 1),)),), *LOST[1:])):
            entries = lost_table(plan)
            for k in range(len(entries)):
                rest = without(entries, k)
                self.require_fault(plan, ("shown", ("lost",), rest), fault_of(plan, ("shown", ("lost",), rest)))
                self.assertIn(first_fault(plan, ("shown", ("lost",), rest))[0], ("root", "wait", "drain", "more"))


class BodiesTest(CheckerCase):
    def test_asks_broken(self):
        table = reached_states(HOUSE, *GOOD)
        for waits, drains, fault in (((), (), None), (((0, 1), (2, 0)), ((0, 1),), ("wait", (0, 1))),
                                     (((2, 0), (2, 1)), ((0, 1),), ("wait", (2, 0))), (((1, 0),), ((0, 1),), ("drain", (0, 1))),
                                     ((), ((0, 2), (2, 1)), ("drain", (2, 1))), (((1, 0), (8, 9)), ((0, 2),), None)):
            self.require_fault(HOUSE, ("broken", ("asks", waits, drains), (GOOD, table)), fault)
            self.require_fault(HOUSE, ("broken", ("asks", waits, drains), (GOOD, table[1:])),
                               fault or ("start", (0, (0, 0, 0), (0, 0, 0))))

    def test_worth_in_order(self):
        regime, table, entries = decide(HOUSE, ("worth", 5))[2]
        start = ("start", (0, (0, 0, 0), (0, 0, 0)))
        for n in (4, 6):
            self.require_fault(HOUSE, ("shown", ("worth", n), (regime, table[1:], entries[1:])), ("price",))
        self.require_fault(HOUSE, ("shown", ("worth", 5), (regime, table[1:], entries[1:])), start)
        self.require_fault(HOUSE, ("shown", ("worth", 5), (regime, table, entries[1:])), ("root",))
        for n in (0, 4, 5):
            self.require_fault(HOUSE, ("broken", ("worth", n), ("less", regime, table[1:])), ("price",))
        self.require_fault(HOUSE, ("broken", ("worth", 6), ("less", regime, table[1:])), start)
        self.require_fault(HOUSE, ("broken", ("worth", 6), ("less", regime, table)), None)
        self.require_fault(HOUSE, ("broken", ("worth", 4), ("more", entries)), None)
        # What is excused by the price 5 or more is not by one above 5.
        self.assertIn(first_fault(HOUSE, ("broken", ("worth", 5), ("more", entries)))[0], ("wait", "drain"))
        self.require_fault(HOUSE, ("broken", ("worth", 5), ("more", entries)),
                           fault_of(HOUSE, ("broken", ("worth", 5), ("more", entries))))

    def test_worth_by_prices_and_fees(self):
        prices, fees = (3,) * 10, (4,) * 10
        told = decide(HOUSE, ("worth", 17), prices=prices, fees=fees)
        self.assertEqual(told[0], "shown")
        self.require_fault(HOUSE, told, None, prices=prices, fees=fees)
        self.require_fault(HOUSE, told, ("price",), prices=fees, fees=prices)
        self.require_fault(HOUSE, told, ("price",))
        more = decide(HOUSE, ("worth", 16), prices=prices, fees=fees)
        self.require_fault(HOUSE, more, None, prices=prices, fees=fees)
        self.assertIsNotNone(first_fault(HOUSE, more))
        less = decide(HOUSE, ("worth", 18), prices=prices, fees=fees)
        self.require_fault(HOUSE, less, None, prices=prices, fees=fees)
        self.require_fault(HOUSE, less, None)
        self.require_fault(HOUSE, less, ("price",), prices=(4,) * 10, fees=fees)

    def test_regimes_one_below_the_worth_need_entries(self):
        nothing = (0,) * 10
        prices = (1,) + nothing[1:]
        told = decide(HOUSE, ("worth", 1), prices=prices, fees=nothing)
        self.require_fault(HOUSE, told, None, prices=prices, fees=nothing)
        regime, table, entries = told[2]
        self.assertEqual(told[0], "shown")
        self.require_fault(HOUSE, (*told[:2], (regime, table, ())), ("root",), prices=prices, fees=nothing)
        self.require_fault(HOUSE, (*told[:2], (regime, table, entries[:1])), ("drain", 0, (0, 1)), prices=prices,
                           fees=nothing)

    def test_lost_broken(self):
        told = decide(HOUSE, ("lost",))
        self.require_fault(HOUSE, told, None)
        self.require_fault(HOUSE, ("broken", ("lost",), (((), ()), reached_states(HOUSE, (), ()))),
                           fault_of(HOUSE, ("broken", ("lost",), (((), ()), reached_states(HOUSE, (), ())))))
        self.assertEqual(first_fault(HOUSE, ("broken", ("lost",), (((), ()), reached_states(HOUSE, (), ()))))[0], "misled")


class DrawnTest(CheckerCase):
    KINDS = {"form", "claim", "start", "misled", "lead", "round", "outcome", "possible", "cut", "end", "root", "walk",
             "wait", "drain", "more", "price", None}

    def test_changed_and_mixed_certificates(self):
        chance, kinds = random.Random(103), set()
        for _ in range(450):
            plan = some_busy_house(chance, SHAPES, 4)
            regime = chance.choice(all_closed(plan))
            told = [decide(plan, claim) for claim in (
                ("calm", *regime), ("ends", *regime), ("lost",), ("asks", regime[0][:1], regime[1][:1]),
                ("worth", chance.randint(0, 3)))]
            rows = [some_mixed_certificate(chance, plan) for _ in range(5)]
            rows += [changed(chance, chance.choice(told)) for _ in range(8)]
            rows += [changed(chance, changed(chance, chance.choice(told))) for _ in range(2)]
            for row in rows:
                self.require_fault(plan, row, fault_of(plan, row))
                fault = first_fault(plan, row)
                kinds.add(None if fault is None else fault[0])
                self.assertTrue(fault is None or is_plain(fault))
        self.assertTrue(self.KINDS - {"more"} <= kinds <= self.KINDS, self.KINDS - kinds)

    def test_edited_plans(self):
        chance, kinds = random.Random(104), set()
        for _ in range(150):
            plan, other = [some_busy_house(chance, ((1, 1), (2, 1)), 4) for _ in range(2)]
            edited = (plan[0], plan[1], other[2]) if chance.random() < 0.5 else (other[0], plan[1], plan[2])
            if len(edited[2]) <= max(edited[1]) or any(
                    node[0] == "read" and (node[1] >= len(edited[0]) or max(
                        [node[3]] + [target for _, target in node[2]]) >= len(edited[2])) for node in edited[2]):
                continue
            regime = chance.choice(all_closed(plan))
            for claim in (("calm", *regime), ("ends", *regime), ("lost",), ("asks", (), ()), ("worth", 0)):
                told = decide(plan, claim)
                self.require_fault(edited, told, fault_of(edited, told))
                kinds.add((first_fault(edited, told) or (None,))[0])
        self.assertTrue({None, "form", "claim", "start", "outcome"} & kinds and len(kinds) > 6, kinds)

    def test_certificates_for_the_wrong_word_are_not_accepted(self):
        chance = random.Random(105)
        for _ in range(60):
            plan = some_busy_house(chance, SHAPES, 4)
            for _ in range(12):
                row = some_mixed_certificate(chance, plan)
                if first_fault(plan, row) is None:
                    self.assertEqual(row[0], decide(plan, row[1])[0])

    def test_the_arguments_are_the_same_afterwards(self):
        chance = random.Random(106)
        for _ in range(20):
            plan = some_busy_house(chance, SHAPES, 4)
            case = (plan, some_mixed_certificate(chance, plan))
            before = copy.deepcopy(case)
            first_fault(*case)
            first_fault(plan, list(case[1]))
            self.assertEqual(repr(case), repr(before))
            self.assertFalse(has_round(plan, (), ()))


if __name__ == "__main__":
    unittest.main()
