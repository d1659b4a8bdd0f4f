"""Point 3, the main guarantee, tried on drawn plans: claims, records, and every moment of a passage."""

import random
import unittest

from leavefirst.checker import first_fault
from leavefirst.claims import decide
from leavefirst.entering import is_passable
from leavefirst.errors import Crossed, Done, Inside, InvalidClaim, Tangled, TooLate, Waiting
from leavefirst.fees import best_regime
from leavefirst.holding import holder
from leavefirst.passages import Passage
from leavefirst.reached import is_calm, reached_states
from leavefirst.sessions import Session
from tests.changing import changed, some_entries, some_mixed_certificate, some_table
from tests.faults import is_valid
from tests.helper import has_round, plan_names
from tests.naive import some_ruled
from tests.plain import ONES, all_closed, closed_of, is_true, some_busy_house

SHAPES = ((1, 1, 1), (2, 1), (1, 2), (1, 1), (3,), (2,), (1, 0, 1, 1))
MISLED = ("end", "misled")


def some_claim(chance, plan):
    """Return a claim that is often valid for the plan."""
    names = plan_names(plan) + [chance.randint(0, 9)]
    waits, drains = [tuple(sorted({tuple(chance.sample(sorted(set(names)), 2)) for _ in range(chance.randint(0, 2))}))
                     if len(set(names)) > 1 else () for _ in range(2)]
    return chance.choice((("calm", waits, drains), ("ends", waits, drains), ("asks", waits, drains),
                          ("worth", chance.randint(0, 4)), ("lost",)))


class ClaimsTest(unittest.TestCase):
    def require_decided(self, plan, claim, prices=ONES, fees=ONES):
        """Assert that a valid claim has the right word with a certificate that is accepted, and an invalid one none."""
        if not is_valid(plan, claim):
            with self.assertRaises(InvalidClaim):
                decide(plan, claim, prices=prices, fees=fees)
            return None
        told = decide(plan, claim, prices=prices, fees=fees)
        self.assertEqual(told[:2], ("shown" if is_true(plan, claim, prices, fees) else "broken", claim))
        self.assertIsNone(first_fault(plan, told, prices=prices, fees=fees))
        return told

    def test_each_claim_has_one_word(self):
        chance, kinds = random.Random(141), set()
        for _ in range(120):
            plan = some_busy_house(chance, SHAPES)
            prices, fees = [tuple(chance.randint(0, 3) for _ in range(10)) for _ in range(2)]
            for _ in range(6):
                claim = some_claim(chance, plan)
                told = self.require_decided(plan, claim, prices, fees)
                kinds.add((claim[0], told and told[0]))
        self.assertTrue({(kind, word) for kind in ("calm", "ends", "asks", "worth", "lost")
                         for word in ("shown", "broken")} <= kinds)
        self.assertIn(("calm", None), kinds)

    def test_no_certificate_of_the_other_word_is_accepted(self):
        chance, accepted = random.Random(142), 0
        for _ in range(80):
            plan = some_busy_house(chance, SHAPES, 4)
            for row in self.rows_of(chance, plan):
                if first_fault(plan, row) is None:
                    accepted += 1
                    self.assertEqual(row[0], "shown" if is_true(plan, row[1]) else "broken")
        self.assertTrue(accepted > 100)

    def rows_of(self, chance, plan):
        """Return certificates that are right or nearly so, with either word."""
        rows = [some_mixed_certificate(chance, plan) for _ in range(6)]
        for _ in range(4):
            claim = some_claim(chance, plan)
            if is_valid(plan, claim):
                word, _, body = decide(plan, claim)
                rows += [(word, claim, body), ("shown" if word == "broken" else "broken", claim, body)]
                rows += [changed(chance, row) for row in rows[-2:]]
        good, regime = best_regime(plan, ONES, ONES), chance.choice(all_closed(plan))
        for one in (regime, good or regime):
            table = some_table(chance, plan, one)
            rows += [("broken", ("lost",), (one, table)), ("broken", ("asks", one[0][1:2], ()), (one, table)),
                     ("shown", ("worth", 1), (one, table, some_entries(chance, plan))), ("shown", ("calm", *one), table),
                     ("shown", ("ends", *one), table), ("shown", ("calm", *one), reached_states(plan, *one))]
        return rows


class RecordsTest(unittest.TestCase):
    def test_records_stand_exactly_if_they_are_right_now(self):
        chance, seen = random.Random(143), set()
        for _ in range(40):
            session = Session(some_busy_house(chance, SHAPES, 4))
            others = [some_busy_house(chance, SHAPES, 4) for _ in range(3)]
            session.checkpoint()
            for _ in range(12):
                claim = some_claim(chance, session.plan())
                if is_valid(session.plan(), claim):
                    session.record(claim)
                self.edit(chance, session, chance.choice(others))
                for k in range(len(session)):
                    seen.add(self.require_record(session, k))
        self.assertEqual(seen, {True, False, None})

    def edit(self, chance, session, other):
        """Change something of the session's plan, prices or fees, or go back to the beginning."""
        kind, node, names = chance.randrange(6), other[2][0], plan_names(session.plan())
        if kind == 0:
            session.restore(0)
        elif kind == 1 and node[1] < len(session.plan()[0]) and max(
                [node[3]] + [target for _, target in node[2]]) < len(session.plan()[2]):
            session.put_node(0, node)
        elif kind == 2:
            session.set_price(chance.randint(0, 9), chance.randint(0, 3))
        elif kind == 3:
            session.set_first(0, chance.randint(0, 3))
        elif kind == 4 and chance.random() < 0.3:
            session.take_change(names[0])
        elif kind == 4 and len(names) < 5:
            session.put_change(0, 0, min(set(range(10)) - set(names)), chance.randint(0, 3))
        else:
            session.set_fee(chance.randint(0, 9), chance.randint(0, 3))

    def require_record(self, session, k):
        """Assert that a record that stands has the right word; return whether it stands, None for no valid claim."""
        word, claim, _ = session.recorded(k)
        if not is_valid(session.plan(), claim):
            self.assertEqual(session.standing(k), ("claim",))
            return None
        stands = session.standing(k) is None
        if stands:
            right = is_true(session.plan(), claim, session.prices(), session.fees())
            self.assertEqual(word, "shown" if right else "broken")
        self.assertIsNone(first_fault(session.plan(), session.decide(claim), prices=session.prices(), fees=session.fees()))
        return stands


class PassagesTest(unittest.TestCase):
    def require_moment(self, plan, passage):
        """Assert what point 3 says of this moment of a passage; return words for what it was like."""
        regime, words = passage.regime(), set()
        calm, ends = is_calm(plan, *regime), holder(plan, *regime) is None
        for walker in range(len(passage)):
            start, sights, place = passage.walker_at(walker)
            self.assertTrue(is_passable(plan, *regime, start, sights))
            self.assertFalse(calm and plan[2][place] == MISLED)
            words |= {"misled"} if plan[2][place] == MISLED else {"calm"} if calm else set()
        if ends and len(passage.log()) < len(plan_names(plan)):
            words.add("ready" if passage.ready() else "held")
            if not passage.ready():
                self.require_going_on(plan, passage.fork())
        elif not ends and not passage.ready():
            words.add("may not end")
        return words

    def require_going_on(self, plan, passage):
        """Assert that all walkers come to an end, and that then each change can come that the order lets come next."""
        for walker in range(len(passage)):
            looks = 0
            while plan[2][passage.walker_at(walker)[2]][0] == "read":
                passage.look(walker)
                looks += 1
                self.assertTrue(looks <= 11)
        order, _ = closed_of(plan, *passage.regime())
        done = passage.log()
        coming = [b for b in plan_names(plan) if b not in done and all(a in done for a, other in order if other == b)]
        self.assertTrue(coming)
        self.assertEqual(list(passage.ready()), coming)
        for name in coming:
            passage.fork().carry_out(name)

    def some_step(self, chance, plan, passage):
        """Do something if it can be done."""
        kind, names = chance.random(), plan_names(plan)
        try:
            if kind < 0.35 and names:
                passage.carry_out(chance.choice(names))
            elif kind < 0.55 and len(passage) < 100:
                passage.enter(chance.choice(plan[1]))
            elif kind < 0.9 and len(passage):
                walker = chance.randrange(len(passage))
                if plan[2][passage.walker_at(walker)[2]][0] == "read":
                    passage.look(walker)
            elif len(names) > 1:
                passage.change_regime(*[tuple(sorted({tuple(chance.sample(names, 2)) for _ in range(chance.randint(0, 2))}))
                                        for _ in range(2)])
        except (Done, Waiting, Inside, Tangled, TooLate, Crossed):
            pass

    def test_every_moment(self):
        chance, words = random.Random(144), set()
        for k in range(150):
            plan, waits, drains = some_ruled(chance, 5, 5)
            if k % 3:
                plan = some_busy_house(chance, SHAPES + ((2, 2), (1, 1, 1, 1)))
                waits, drains = (best_regime(plan, ONES, ONES) if k % 3 == 1 and len(plan_names(plan)) < 4 else None) or ((), ())
            self.assertFalse(has_round(plan, waits, drains))
            passage = Passage(plan, waits, drains)
            for _ in range(25):
                self.some_step(chance, plan, passage)
                words |= self.require_moment(plan, passage)
        self.assertEqual(words, {"misled", "calm", "ready", "held", "may not end"})


if __name__ == "__main__":
    unittest.main()
