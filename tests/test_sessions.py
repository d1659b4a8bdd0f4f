"""Sessions: edits, checkpoints, records, and passages of a plan that is edited."""

import copy
import random
import unittest

from leavefirst.checker import first_fault
from leavefirst.claims import decide
from leavefirst.errors import (
    InvalidClaim, InvalidFees, InvalidPlan, InvalidPrices, LimitExceeded, Tangled, UnknownCheckpoint, UnknownName,
    UnknownPlace, UnknownRecord, UnknownSign,
)
from leavefirst.passages import Passage
from leavefirst.plans import require_plan
from leavefirst.sessions import Session
from tests.faults import fault_of
from tests.helper import HOUSE, ODD, deep, is_deeply_tuple, is_plain, plan_of, raised
from tests.naive import some_house, some_node
from tests.plain import ONES

WAITS, DRAINS = ((2, 0),), ((0, 1),)
NINES, NOTHING = (99,) * 10, (0,) * 10
NO_NUMBERS = (-1, True, False, None, "0", (0,), [0], {}, {0: 0}, (), "", 10 ** 29, -10 ** 29, deep(0, 40))
NO_PRICES = (None, (), [], [1] * 10, (1,) * 9, (1,) * 11, (1,) * 9 + (100,), (-1,) + (1,) * 9, (True,) + (1,) * 9,
             (1,) * 9 + (False,), (1,) * 9 + (None,), ("1",) * 10, "1111111111", {k: 1 for k in range(10)}, 1,
             (10 ** 29,) * 10, ((1,),) * 10, deep((), 40), True)


def state_of(session):
    """Return all that a session tells of itself."""
    return (session.plan(), session.prices(), session.fees(), len(session))


class SessionCase(unittest.TestCase):
    def require_refused(self, session, error, call, *args, **kept):
        """Assert that the call raises the error, with what it keeps, and changes nothing."""
        before, values = state_of(session), repr(args)
        caught = raised(error, call, *args)
        self.assertIsNotNone(caught, args)
        for name, value in kept.items():
            self.assertEqual(repr(getattr(caught, name)), repr(value))
        self.assertEqual((state_of(session), repr(args)), (before, values))


class NewTest(SessionCase):
    def test_the_example(self):
        session = Session(HOUSE)
        self.assertEqual(session.record(("calm", WAITS, ())), 0)
        self.assertIsNone(session.standing(0))
        self.assertIsNone(session.put_node(4, ("end", "good")))
        self.assertEqual(session.standing(0), ("outcome",))

    def test_what_it_has(self):
        session = Session(HOUSE)
        self.assertEqual(state_of(session), (HOUSE, ONES, ONES, 0))
        session = Session(fees=NINES, plan=HOUSE, prices=NOTHING)
        self.assertEqual(state_of(session), (HOUSE, NOTHING, NINES, 0))
        self.assertTrue(is_plain(session.plan()) and is_deeply_tuple((session.prices(), session.fees())))

    def test_by_name_only(self):
        self.assertIsNotNone(raised(TypeError, Session, HOUSE, ONES))
        self.assertIsNotNone(raised(TypeError, Session, HOUSE, ONES, ONES))

    def test_errors_in_order(self):
        def made(plan, prices, fees):
            return Session(plan, prices=prices, fees=fees)
        wrong = (HOUSE[0], (0, 0), HOUSE[2])
        for prices in NO_PRICES:
            self.assertIsNotNone(raised(InvalidPrices, made, HOUSE, prices, ONES))
            self.assertIsNotNone(raised(InvalidFees, made, HOUSE, ONES, prices))
            self.assertIsNotNone(raised(InvalidPrices, made, HOUSE, prices, prices))
            self.assertEqual(raised(InvalidPlan, made, wrong, prices, prices).part, ("starts",))
        for value in ODD + (deep((), 40), [HOUSE], list(HOUSE), HOUSE[:2], (0,) * 200000):
            self.assertEqual(raised(InvalidPlan, made, value, ONES, ONES).part, None)
        self.assertEqual(raised(InvalidPlan, made, (((0, ((0, 1), (0, 2))),), (0,), HOUSE[2]), ONES, ONES).part, ("sign", 0))
        self.assertEqual(raised(InvalidPlan, made, (HOUSE[0], (0,), HOUSE[2][:4]), ONES, ONES).part, ("node", 0))


class EditTest(SessionCase):
    def test_put_change(self):
        session = Session((((0, ((4, 1), (5, 2))), (3, ())), (0,), (("end", "good"),)))
        session.put_change(0, 0, 6, 7)
        self.assertEqual(session.plan()[0], ((0, ((6, 7), (4, 1), (5, 2))), (3, ())))
        session.put_change(0, 3, 8, 9)
        self.assertEqual(session.plan()[0], ((0, ((6, 7), (4, 1), (5, 2), (8, 9))), (3, ())))
        session.put_change(name=0, value=1, place=0, sign=1)
        self.assertEqual(session.plan()[0][1], (3, ((0, 1),)))
        session.put_change(1, 1, 1, 0)
        session.put_change(1, 1, 2, 0)
        self.assertEqual(session.plan()[0][1], (3, ((0, 1), (2, 0), (1, 0))))

    def test_put_change_refused(self):
        session = Session((((0, ((4, 1), (5, 2))), (3, ((7, 1),))), (0,), (("end", "good"),)))
        put = session.put_change
        for sign in NO_NUMBERS + (2,):
            self.require_refused(session, UnknownSign, put, sign, 0, 0, 0, sign=sign)
            self.require_refused(session, UnknownSign, put, sign, sign, sign, sign, sign=sign)
        for place in NO_NUMBERS + (3,):
            self.require_refused(session, UnknownPlace, put, 0, place, 0, 0, place=place)
            self.require_refused(session, UnknownPlace, put, 0, place, 4, -1, place=place)
        self.require_refused(session, UnknownPlace, put, 1, 2, 0, 0, place=2)
        for value in NO_NUMBERS + (10,):
            self.require_refused(session, InvalidPlan, put, 0, 0, value, 0, part=("sign", 0))
            self.require_refused(session, InvalidPlan, put, 1, 0, 0, value, part=("sign", 1))
        self.require_refused(session, InvalidPlan, put, 0, 2, 4, 0, part=("sign", 0))
        self.require_refused(session, InvalidPlan, put, 1, 0, 4, 0, part=("sign", 1))
        # A name of a sign behind makes that one wrong.
        self.require_refused(session, InvalidPlan, put, 0, 0, 7, 0, part=("sign", 1))

    def test_too_many_changes(self):
        session = Session(plan_of((0, 1, 2, 3), (4, 5, 6, 7), ()))
        self.require_refused(session, InvalidPlan, session.put_change, 2, 0, 8, 0, part=None)
        self.require_refused(session, InvalidPlan, session.put_change, 0, 4, 8, 0, part=("sign", 0))
        self.require_refused(session, InvalidPlan, session.put_change, 1, 0, 8, 0, part=("sign", 1))

    def test_take_change(self):
        session = Session((((0, ((4, 1), (5, 2), (6, 3))), (3, ((7, 1),))), (0,), (("end", "good"),)))
        session.take_change(5)
        self.assertEqual(session.plan()[0], ((0, ((4, 1), (6, 3))), (3, ((7, 1),))))
        session.take_change(name=7)
        session.take_change(4)
        session.take_change(6)
        self.assertEqual(session.plan()[0], ((0, ()), (3, ())))
        for name in NO_NUMBERS + (4, 0, 9, 10):
            self.require_refused(session, UnknownName, session.take_change, name, name=name)

    def test_set_value(self):
        session = Session((((0, ((4, 1), (5, 2), (6, 3))), (3, ((7, 1),))), (0,), (("end", "good"),)))
        session.set_value(5, 9)
        session.set_value(value=0, name=7)
        self.assertEqual(session.plan()[0], ((0, ((4, 1), (5, 9), (6, 3))), (3, ((7, 0),))))
        for name in NO_NUMBERS + (0, 9):
            self.require_refused(session, UnknownName, session.set_value, name, 1, name=name)
            self.require_refused(session, UnknownName, session.set_value, name, -1, name=name)
        for value in NO_NUMBERS + (10,):
            self.require_refused(session, InvalidPlan, session.set_value, 4, value, part=("sign", 0))
            self.require_refused(session, InvalidPlan, session.set_value, 7, value, part=("sign", 1))

    def test_set_first(self):
        session = Session(HOUSE)
        session.set_first(1, 9)
        session.set_first(value=5, sign=2)
        self.assertEqual(session.plan(), (((0, ((0, 1),)), (9, ((1, 0),)), (5, ((2, 1),))), *HOUSE[1:]))
        for sign in NO_NUMBERS + (3,):
            self.require_refused(session, UnknownSign, session.set_first, sign, 0, sign=sign)
            self.require_refused(session, UnknownSign, session.set_first, sign, sign, sign=sign)
        for value in NO_NUMBERS + (10,):
            self.require_refused(session, InvalidPlan, session.set_first, 2, value, part=("sign", 2))

    def test_put_node(self):
        session = Session(HOUSE)
        session.put_node(4, ("end", "good"))
        session.put_node(node=("read", 2, ((3, 5),), 0), place=5)
        self.assertEqual(session.plan(), (*HOUSE[:2], HOUSE[2][:4] + (("end", "good"), ("read", 2, ((3, 5),), 0))))
        session.put_node(0, ("read", 0, (), 5))
        self.assertEqual(session.plan()[2][:2], (("read", 0, (), 5), HOUSE[2][1]))
        for place in NO_NUMBERS + (7, 12):
            self.require_refused(session, UnknownPlace, session.put_node, place, ("end", "good"), place=place)
            self.require_refused(session, UnknownPlace, session.put_node, place, place, place=place)
        for node in ODD + (("end",), ["end", "good"], ("end", "bad"), ("read", 3, (), 0), ("read", 0, (), 7), deep(0, 40),
                           ("read", 0, ((1, 0), (0, 0)), 0), ("read", 0, [], 0), ("read", True, (), 0)):
            for place in (0, 5, 6):
                self.require_refused(session, InvalidPlan, session.put_node, place, node, part=("node", place))
        # The node that is appended may be named by itself.
        session.put_node(6, ("read", 0, (), 6))
        for place in range(7, 12):
            session.put_node(place, ("end", "misled"))
        self.require_refused(session, InvalidPlan, session.put_node, 12, ("end", "good"), part=None)
        self.require_refused(session, UnknownPlace, session.put_node, 13, ("end", "good"), place=13)

    def test_set_starts(self):
        session = Session(HOUSE)
        session.set_starts((1, 2, 4))
        self.assertEqual(session.plan(), (HOUSE[0], (1, 2, 4), HOUSE[2]))
        session.set_starts(starts=(3,))
        self.assertEqual(session.plan()[1], (3,))
        for starts in ((0, 0), (1, 0), (5,), (-1,), (True,), (0, None), ((0,),), ("0",), (0, 10 ** 29), ([],)):
            self.require_refused(session, InvalidPlan, session.set_starts, starts, part=("starts",))
        for starts in ((), [], [0], None, 0, "0", {0: 0}, [deep(0, 39)], deep(0, 41)):
            self.require_refused(session, InvalidPlan, session.set_starts, starts, part=None)

    def test_prices_and_fees(self):
        session = Session(HOUSE)
        session.set_price(0, 99)
        session.set_price(price=0, name=9)
        session.set_fee(9, 98)
        session.set_fee(fee=0, name=4)
        self.assertEqual(session.prices(), (99,) + (1,) * 8 + (0,))
        self.assertEqual(session.fees(), (1, 1, 1, 1, 0, 1, 1, 1, 1, 98))
        for call, error in ((session.set_price, InvalidPrices), (session.set_fee, InvalidFees)):
            for name in NO_NUMBERS + (10,):
                self.require_refused(session, UnknownName, call, name, 1, name=name)
                self.require_refused(session, UnknownName, call, name, -1, name=name)
            for value in NO_NUMBERS + (100,):
                self.require_refused(session, error, call, 0, value)
                self.require_refused(session, error, call, 9, value)

    def test_all_return_none(self):
        session = Session(HOUSE)
        for told in (session.put_change(0, 0, 5, 5), session.set_value(5, 4), session.take_change(5), session.set_first(0, 0),
                     session.put_node(0, HOUSE[2][0]), session.set_starts((0,)), session.set_price(0, 1),
                     session.set_fee(0, 1)):
            self.assertIsNone(told)
        self.assertEqual(state_of(session), (HOUSE, ONES, ONES, 0))


class CheckpointTest(SessionCase):
    def test_restoring_in_any_order(self):
        session, states = Session(HOUSE), []
        for k in range(8):
            self.assertEqual(session.checkpoint(), k)
            states.append(state_of(session))
            session.set_first(0, k + 1)
            session.set_price(k, 50 + k)
            session.set_fee(9 - k, 60 + k)
            session.put_node(3, ("end", ("good", "misled")[k % 2]))
        last = state_of(session)
        for k in (3, 0, 7, 7, 1, 0, 5, 2, 6, 4, 3):
            self.assertIsNone(session.restore(k))
            self.assertEqual(state_of(session), states[k])
            session.set_first(2, 9)
            self.assertEqual([session.plan_at(number) for number in range(8)], [state[0] for state in states])
        self.assertNotEqual(last, state_of(session))
        session.restore(number=2)
        self.assertEqual(session.plan_at(number=3), states[3][0])

    def test_at_most_eight(self):
        session = Session(HOUSE)
        for _ in range(8):
            session.checkpoint()
        self.assertEqual(raised(LimitExceeded, session.checkpoint).limit, 8)
        session.restore(0)
        self.assertEqual(raised(LimitExceeded, session.checkpoint).limit, 8)

    def test_numbers_that_are_none(self):
        session = Session(HOUSE)
        self.require_refused(session, UnknownCheckpoint, session.restore, 0, number=0)
        session.checkpoint()
        for number in NO_NUMBERS + (1, 8):
            for call in (session.restore, session.plan_at):
                self.require_refused(session, UnknownCheckpoint, call, number, number=number)

    def test_restoring_changes_no_records_and_checkpoints(self):
        session = Session(HOUSE)
        session.checkpoint()
        session.record(("calm", WAITS, DRAINS))
        session.set_starts((3,))
        session.record(("lost",))
        session.checkpoint()
        certificates = [session.recorded(k) for k in range(2)]
        session.restore(0)
        self.assertEqual((len(session), [session.recorded(k) for k in range(2)]), (2, certificates))
        self.assertEqual((session.plan_at(0), session.plan_at(1)), (HOUSE, (HOUSE[0], (3,), HOUSE[2])))
        self.assertEqual(session.checkpoint(), 2)


class RecordTest(SessionCase):
    def test_records(self):
        session = Session(HOUSE)
        claims = (("calm", WAITS, DRAINS), ("ends", WAITS, DRAINS), ("asks", (), DRAINS), ("worth", 5), ("lost",))
        for k, claim in enumerate(claims):
            self.assertEqual(session.decide(claim), decide(HOUSE, claim))
            self.assertEqual(session.record(claim), k)
            self.assertEqual(len(session), k + 1)
        for k, claim in enumerate(claims):
            self.assertEqual(session.recorded(k), decide(HOUSE, claim))
            self.assertIsNone(session.standing(k))
        self.assertEqual(session.record(claim=("worth", 4)), 5)
        self.assertEqual(session.decide(claim=("worth", 4)), session.recorded(number=5))
        self.assertIsNone(session.standing(number=5))

    def test_at_most_sixteen(self):
        session = Session(HOUSE)
        for k in range(16):
            self.assertEqual(session.record(("calm", (), ())), k)
        for claim in (("lost",), None, ("worth", -1), []):
            self.require_refused(session, LimitExceeded, session.record, claim, limit=16)
        self.assertEqual(session.decide(("lost",))[0], "broken")
        session.checkpoint()
        session.restore(0)
        self.assertEqual(raised(LimitExceeded, session.record, ("lost",)).limit, 16)

    def test_claims_that_are_none(self):
        session = Session(HOUSE)
        for claim in ODD + (("calm", ((0, 1), (1, 0)), ()), ("worth", 2001), deep(("lost",), 39), ["lost"]):
            self.require_refused(session, InvalidClaim, session.record, claim)
            self.require_refused(session, InvalidClaim, session.decide, claim)
        session = Session(plan_of((0, 1), (2, 3), (4, 5)))
        for claim in (("lost",), ("calm", (), ()), ("asks", (), ()), ("worth", 0)):
            self.require_refused(session, InvalidClaim, session.record, claim)

    def test_numbers_that_are_none(self):
        session = Session(HOUSE)
        self.require_refused(session, UnknownRecord, session.recorded, 0, number=0)
        session.record(("lost",))
        for number in NO_NUMBERS + (1, 16):
            for call in (session.recorded, session.standing):
                self.require_refused(session, UnknownRecord, call, number, number=number)

    def test_prices_and_fees_count(self):
        session = Session(HOUSE, prices=NOTHING, fees=NINES)
        number = session.record(("worth", 198))
        self.assertEqual(session.recorded(number), decide(HOUSE, ("worth", 198), prices=NOTHING, fees=NINES))
        self.assertIsNone(session.standing(number))
        session.set_fee(1, 98)
        self.assertEqual(session.standing(number), ("price",))
        self.assertEqual(session.decide(("worth", 196))[0], "shown")
        session.set_fee(1, 99)
        self.assertIsNone(session.standing(number))
        session.set_price(1, 1)
        self.assertEqual(session.standing(number), ("price",))
        session.checkpoint()
        session.set_price(1, 0)
        self.assertIsNone(session.standing(number))
        session.restore(0)
        self.assertEqual(session.standing(number), ("price",))

    def test_records_fall_and_stand_again(self):
        session = Session(HOUSE)
        number = session.record(("lost",))
        certificate = session.recorded(number)
        session.checkpoint()
        session.set_starts((0, 4))
        self.assertEqual(session.standing(number), first_fault(session.plan(), certificate))
        self.assertIsNotNone(session.standing(number))
        session.put_change(0, 1, 5, 1)
        session.put_change(1, 1, 6, 1)
        # Five changes: the claim is not valid for the plan any more.
        self.assertEqual(session.standing(number), ("claim",))
        self.assertEqual(session.recorded(number), certificate)
        session.restore(0)
        self.assertIsNone(session.standing(number))


class PassageTest(SessionCase):
    def test_passages_go_on_by_what_they_were_made_of(self):
        session = Session(HOUSE)
        passage, other = session.passage(WAITS, DRAINS), session.passage()
        self.assertEqual((passage.__class__, passage.regime(), other.regime()), (Passage, (WAITS, DRAINS), ((), ())))
        passage.enter(0)
        session.put_node(0, ("end", "misled"))
        session.take_change(2)
        session.set_first(0, 5)
        self.assertEqual((passage.look(0), passage.walker_at(0), passage.ready()), (0, (0, (0,), 1), (2,)))
        passage.carry_out(2)
        other.carry_out(2)
        third = session.passage(drains=((0, 1),), waits=())
        self.assertEqual((third.ready(), third.enter(0), third.walker_at(0)), ((0,), 0, (0, (), 0)))
        session.restore(session.checkpoint())
        self.assertEqual(passage.log(), (2,))

    def test_tangled(self):
        session = Session(HOUSE)
        self.assertEqual(raised(Tangled, session.passage, ((1, 0),), ((0, 1),)).name, 0)
        session.put_change(0, 1, 7, 7)
        self.assertEqual(raised(Tangled, session.passage, ((7, 0),), ()).name, 0)


class DrawnTest(SessionCase):
    def some_edit(self, chance, session):
        """Try an edit with arguments that are mostly right; return the error that it raised, or None."""
        plan = session.plan()
        names = [name for _, changes in plan[0] for name, _ in changes] + [chance.randint(0, 9)]
        sign, place = chance.randint(0, len(plan[0])), chance.randint(0, 4)
        edits = (
            (session.put_change, sign, place, chance.randint(0, 9), chance.randint(0, 2)),
            (session.take_change, chance.choice(names)), (session.set_value, chance.choice(names), chance.randint(0, 2)),
            (session.set_first, sign, chance.randint(0, 2)),
            (session.put_node, chance.randint(0, len(plan[2])), some_node(chance, len(plan[0]), len(plan[2]) + 1)),
            (session.set_starts, tuple(sorted({chance.randint(0, len(plan[2])) for _ in range(2)}))),
            (session.set_price, chance.randint(0, 9), chance.randint(0, 4)),
            (session.set_fee, chance.randint(0, 9), chance.randint(0, 4)),
        )
        call, *args = chance.choice(edits)
        try:
            call(*args)
        except (InvalidPlan, UnknownName, UnknownSign, UnknownPlace) as caught:
            return caught
        return None

    def test_histories(self):
        chance, kinds = random.Random(121), set()
        for _ in range(60):
            session, kept, records = Session(some_house(chance, 3, 5)), [], []
            for _ in range(40):
                before = state_of(session)
                caught = self.some_edit(chance, session)
                kinds.add(caught.__class__.__name__)
                self.assertEqual(require_plan(session.plan()), session.plan())
                if caught is not None:
                    self.assertEqual(state_of(session), before)
                if chance.random() < 0.3 and len(records) < 16:
                    self.try_record(chance, session, records)
                if chance.random() < 0.1 and len(kept) < 8:
                    self.assertEqual(session.checkpoint(), len(kept))
                    kept.append(state_of(session)[:3])
                if kept and chance.random() < 0.1:
                    k = chance.randrange(len(kept))
                    session.restore(k)
                    self.assertEqual(state_of(session)[:3], kept[k])
                self.require_records(session, records, kinds)
        self.assertTrue({"InvalidPlan", "UnknownName", "UnknownSign", "UnknownPlace", "NoneType", "stands", "claim", "form",
                         "start", "outcome"} <= kinds, kinds)

    def try_record(self, chance, session, records):
        """Record a claim if it is valid."""
        names = [name for _, changes in session.plan()[0] for name, _ in changes]
        pair = tuple(chance.sample(names, 2)) if len(names) > 1 else (0, 1)
        claim = chance.choice((("calm", (pair,), ()), ("calm", (), ()), ("ends", (), (pair,)), ("lost",), ("asks", (pair,), ()),
                               ("worth", chance.randint(0, 3))))
        try:
            number = session.record(claim)
        except InvalidClaim:
            return
        self.assertEqual(number, len(records))
        records.append(session.recorded(number))
        self.assertEqual(records[-1], session.decide(claim))
        self.assertIsNone(session.standing(number))

    def require_records(self, session, records, kinds):
        """Assert that the records are kept, and stand exactly if they are right for what the session has now."""
        self.assertEqual(len(session), len(records))
        for k, certificate in enumerate(records):
            self.assertEqual(session.recorded(k), certificate)
            fault = fault_of(session.plan(), certificate, session.prices(), session.fees())
            self.assertEqual(session.standing(k), fault)
            kinds.add("stands" if fault is None else fault[0])

    def test_values_are_not_modified(self):
        session = Session(HOUSE)
        for value in ODD + (deep([], 40), [HOUSE, {}]):
            before = copy.deepcopy(value)
            for call in (session.take_change, session.restore, session.plan_at, session.decide, session.record,
                         session.recorded, session.standing):
                if value != 0 or value.__class__ is bool:
                    self.assertIsNotNone(raised_any(call, value))
            for call in (session.set_value, session.set_first, session.put_node, session.set_price, session.set_fee):
                self.assertIsNotNone(raised_any(call, value, value))
            self.assertIsNotNone(raised_any(session.put_change, value, value, value, value))
            self.assertEqual(repr(value), repr(before))
        self.assertEqual(state_of(session), (HOUSE, ONES, ONES, 0))


def raised_any(call, *args):
    """Return the error of the package that the call raises, or None."""
    try:
        call(*args)
    except (ValueError, LookupError, OverflowError) as caught:
        return caught if caught.__class__.__module__ == "leavefirst.errors" else None
    return None


if __name__ == "__main__":
    unittest.main()
