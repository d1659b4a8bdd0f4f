"""Passages: many walkers, helpers, a regime that is replaced, and forks."""

import copy
import random
import unittest

from leavefirst.errors import (
    Crossed, Done, Ended, Inside, LimitExceeded, Tangled, TooLate, UnknownName, UnknownStart, UnknownWalker, Waiting,
)
from leavefirst.passages import Passage
from tests.helper import HOUSE, ODD, deep, has_round, is_deeply_tuple, is_plain, plan_of, raised
from tests.naive import some_ruled
from tests.plain import some_busy_house
from tests.replay import Replay

WAITS, DRAINS = ((2, 0),), ((0, 1),)
# A walker from 0 goes round until the first sign is new; one from 1 is at an end at once.
ROUND = ((((0, ((0, 1),)), (0, ((1, 1),)), (0, ((2, 1),)))), (0, 1), (("read", 0, ((1, 1),), 0), ("end", "good")))
ERRORS = {error.__name__: error for error in (UnknownName, Done, Waiting, Inside, TooLate, Crossed)}
NO_NUMBERS = (-1, True, False, None, "0", (0,), [0], {}, {0: 0}, (), "", 10 ** 29, -10 ** 29, deep(0, 40))


class PassageCase(unittest.TestCase):
    def require_same(self, passage, replay):
        """Assert that all that the passage tells is what its history tells."""
        now, plan = replay.now(), replay.plan
        self.assertEqual(passage.history(), tuple(replay.events))
        self.assertEqual(passage.log(), tuple(replay.done_at(now)))
        self.assertEqual(passage.versions(), replay.stands_at(now))
        self.assertEqual(passage.regime(), (replay.waits, replay.drains))
        self.assertEqual(len(passage), len(replay.starts))
        self.assertEqual(passage.ready(), replay.ready())
        for told in (passage.log(), passage.versions(), passage.regime(), passage.ready()):
            self.assertTrue(is_deeply_tuple(told))
        self.assertTrue(is_plain(passage.history()))
        for walker, start in enumerate(replay.starts):
            sights, node = replay.way_of(walker, now)
            self.assertEqual(passage.walker_at(walker), (start, sights, node))
            self.assertTrue(is_deeply_tuple(passage.walker_at(walker)))
            self.assertEqual(passage.entered_at(walker), replay.stands_at(replay.entered_moment(walker)))
        for _, changes in plan[0]:
            for name, _ in changes:
                self.assertEqual(passage.holding(name), replay.holding(name))

    def require_refused(self, told, call, *args):
        """Assert that the call raises the error that is told, with what it keeps."""
        word, *kept = told
        error = raised(ERRORS[word], call, *args)
        self.assertIsNotNone(error, told)
        names = {"Waiting": ("name", "other"), "Inside": ("name", "walker")}.get(word, ("name",))
        self.assertEqual([getattr(error, name) for name in names], kept)

    def try_change(self, passage, replay, name):
        told = replay.refused(name)
        if told is None:
            self.assertIsNone(passage.carry_out(name))
            replay.events.append(("change", name))
        else:
            self.require_refused(told, passage.carry_out, name)
        return "changed" if told is None else told[0]

    def try_enter(self, passage, replay, start):
        if start not in replay.plan[1] or start.__class__ is not int:
            self.assertEqual(raised(UnknownStart, passage.enter, start).start, start)
            return "UnknownStart"
        self.assertEqual(passage.enter(start), len(replay.starts))
        replay.events.append(("enter", len(replay.starts)))
        replay.starts.append(start)
        return "entered"

    def try_look(self, passage, replay, walker):
        if walker not in range(len(replay.starts)):
            self.assertEqual(raised(UnknownWalker, passage.look, walker).walker, walker)
            return "UnknownWalker"
        if not replay.is_inside(walker, replay.now()):
            self.assertEqual(raised(Ended, passage.look, walker).walker, walker)
            return "Ended"
        seen = passage.look(walker)
        replay.events.append(("look", walker))
        self.assertEqual(seen, replay.way_of(walker, replay.now())[0][-1])
        return "looked"

    def try_regime(self, passage, replay, waits, drains):
        if has_round(replay.plan, waits, drains):
            self.assertIsNotNone(raised(Tangled, passage.change_regime, waits, drains))
            return "Tangled"
        told = replay.disobeyed(waits, drains)
        if told is None:
            self.assertIsNone(passage.change_regime(waits, drains))
            replay.waits, replay.drains = waits, drains
            return "replaced"
        self.require_refused(told, passage.change_regime, waits, drains)
        return told[0]

    def some_step(self, chance, passage, replay):
        """Try something; return a word for what came of it."""
        names = [name for _, changes in replay.plan[0] for name, _ in changes]
        kind = chance.random()
        if kind < 0.3:
            return self.try_change(passage, replay, chance.choice(names + list(range(10)) + names + names))
        if kind < 0.5:
            return self.try_enter(passage, replay, chance.choice(replay.plan[1] * 3 + tuple(range(12))))
        if kind < 0.85:
            return self.try_look(passage, replay, chance.randint(-1, len(replay.starts)))
        waits, drains = [tuple(sorted({tuple(chance.sample(range(10), 2)) if len(names) < 2 or chance.random() < 0.1
                                       else tuple(chance.sample(names, 2)) for _ in range(chance.randint(0, 2))}))
                         for _ in range(2)]
        return self.try_regime(passage, replay, waits, drains)


class ExampleTest(PassageCase):
    def test_the_example(self):
        passage = Passage(HOUSE, WAITS, DRAINS)
        self.assertEqual((passage.enter(0), passage.look(0)), (0, 0))
        passage.carry_out(2)
        passage.carry_out(0)
        self.assertEqual((passage.ready(), passage.holding(1)), ((), (0,)))
        self.assertEqual(passage.look(0), 0)
        self.assertEqual((passage.walker_at(0), passage.ready()), ((0, (0, 0), 3), (1,)))

    def test_a_new_one(self):
        for passage in (Passage(HOUSE), Passage(plan=HOUSE, waits=(), drains=()), Passage(HOUSE, ()),
                        Passage(drains=(), plan=HOUSE)):
            self.assertEqual(len(passage), 0)
            self.assertEqual((passage.regime(), passage.versions()), (((), ()), (0, 0, 0)))
            self.assertEqual((passage.log(), passage.history(), passage.ready()), ((), (), (0, 1, 2)))
        self.assertEqual(Passage(drains=DRAINS, waits=WAITS, plan=HOUSE).regime(), (WAITS, DRAINS))
        self.assertEqual(Passage(HOUSE, drains=DRAINS).ready(), (0, 2))

    def test_tangled(self):
        for waits, drains, name in ((((1, 0),), ((0, 1),), 0), (((8, 7), (7, 8)), (), 7)):
            self.assertEqual(raised(Tangled, Passage, HOUSE, waits, drains).name, name)

    def test_arguments_by_name(self):
        passage = Passage(HOUSE, WAITS, DRAINS)
        self.assertEqual(passage.enter(start=0), 0)
        self.assertEqual(passage.look(walker=0), 0)
        self.assertEqual(passage.walker_at(walker=0), (0, (0,), 1))
        self.assertEqual(passage.entered_at(walker=0), (0, 0, 0))
        self.assertEqual(passage.holding(name=1), (0,))
        self.assertIsNone(passage.carry_out(name=2))
        self.assertIsNone(passage.change_regime(drains=(), waits=((2, 0),)))
        self.assertEqual(passage.regime(), (((2, 0),), ()))


class WalkersTest(PassageCase):
    def test_starts_that_are_none(self):
        passage = Passage(ROUND)
        for start in NO_NUMBERS + (2, 12):
            self.assertEqual(raised(UnknownStart, passage.enter, start).start, start)
        self.assertEqual(len(passage), 0)
        self.assertEqual([passage.enter(1), passage.enter(0), passage.enter(0)], [0, 1, 2])
        self.assertEqual(raised(UnknownStart, Passage((HOUSE[0], (1,), HOUSE[2])).enter, 0).start, 0)

    def test_walkers_that_are_none(self):
        passage = Passage(ROUND)
        passage.enter(0)
        for walker in NO_NUMBERS + (1, 100):
            for call in (passage.look, passage.walker_at, passage.entered_at):
                self.assertEqual(raised(UnknownWalker, call, walker).walker, walker)
        self.assertEqual(passage.history(), (("enter", 0),))

    def test_a_hundred_walkers(self):
        passage = Passage(ROUND)
        self.assertEqual([passage.enter(k % 2) for k in range(100)], list(range(100)))
        for _ in range(2):
            self.assertEqual(raised(LimitExceeded, passage.enter, 0).limit, 100)
            self.assertEqual(raised(UnknownStart, passage.enter, 2).start, 2)
        self.assertEqual((len(passage), len(passage.history())), (100, 100))
        passage.carry_out(0)
        for walker in range(0, 100, 2):
            self.assertEqual(passage.look(walker), 1)
        # All have ended, and still there are a hundred.
        self.assertEqual(raised(LimitExceeded, passage.enter, 0).limit, 100)
        self.assertEqual(raised(Ended, passage.look, 99).walker, 99)
        self.assertEqual(raised(LimitExceeded, passage.fork().enter, 0).limit, 100)

    def test_who_enters_at_an_end(self):
        passage = Passage(ROUND, (), ((0, 1),))
        self.assertEqual(passage.enter(1), 0)
        self.assertEqual((passage.walker_at(0), passage.entered_at(0)), ((1, (), 1), (0, 0, 0)))
        self.assertEqual(raised(Ended, passage.look, 0).walker, 0)
        self.assertEqual(passage.holding(1), ())
        passage.carry_out(0)
        self.assertEqual(passage.ready(), (1, 2))
        passage.carry_out(1)
        self.assertIsNone(passage.change_regime((), ((0, 1), (0, 2))))

    def test_more_than_four_hundred_looks(self):
        passage = Passage(ROUND)
        passage.enter(0)
        for _ in range(450):
            self.assertEqual(passage.look(0), 0)
        passage.carry_out(0)
        self.assertEqual(passage.look(0), 1)
        self.assertEqual(passage.walker_at(0), (0, (0,) * 450 + (1,), 1))
        self.assertEqual(len(passage.history()), 453)
        self.assertEqual(raised(Ended, passage.look, 0).walker, 0)

    def test_entered_at_stays(self):
        passage = Passage(ROUND)
        passage.enter(0)
        passage.carry_out(2)
        passage.enter(0)
        passage.carry_out(1)
        self.assertEqual([passage.entered_at(walker) for walker in (0, 1)], [(0, 0, 0), (0, 0, 1)])


class ChangesTest(PassageCase):
    def test_names_that_are_none(self):
        passage = Passage(HOUSE)
        for name in NO_NUMBERS + (3, 9, 10):
            for call in (passage.carry_out, passage.holding):
                self.assertEqual(raised(UnknownName, call, name).name, name)
        self.assertEqual(passage.history(), ())

    def test_waiting_tells_the_least_name(self):
        plan = plan_of((5,), (4,), (3,), (6, 2))
        passage = Passage(plan, ((3, 5), (4, 5), (6, 5)))
        for name in (3, 4):
            error = raised(Waiting, passage.carry_out, 5)
            self.assertEqual((error.name, error.other), (5, name))
            passage.carry_out(name)
        self.assertEqual(raised(Waiting, passage.carry_out, 5).other, 6)
        self.assertEqual(raised(Waiting, passage.carry_out, 2).other, 6)
        # What is before by others counts as well, and a drain is in the order, too.
        passage = Passage(plan, ((2, 4), (4, 5)), ((5, 3),))
        self.assertEqual([raised(Waiting, passage.carry_out, name).other for name in (2, 3, 4, 5)], [6, 2, 2, 2])

    def test_in_order(self):
        passage = Passage(ROUND, (), ((0, 1),))
        passage.enter(0)
        self.assertEqual(raised(Waiting, passage.carry_out, 1).other, 0)
        passage.carry_out(0)
        error = raised(Inside, passage.carry_out, 1)
        self.assertEqual((error.name, error.walker), (1, 0))
        self.assertEqual(raised(Done, passage.carry_out, 0).name, 0)
        passage.look(0)
        passage.carry_out(1)
        self.assertEqual(raised(Done, passage.carry_out, 1).name, 1)
        self.assertEqual(passage.log(), (0, 1))

    def test_inside_tells_the_least_walker(self):
        plan = (ROUND[0], (0, 1), (("read", 2, ((1, 1),), 0), ("end", "good")))
        passage = Passage(plan, (), ((0, 1),))
        for start in (1, 0, 0):
            passage.enter(start)
        passage.carry_out(0)
        passage.enter(0)
        self.assertEqual(raised(Inside, passage.carry_out, 1).walker, 1)
        self.assertEqual((passage.holding(1), passage.holding(0), passage.holding(2)), ((1, 2), (), ()))
        passage.carry_out(2)
        passage.look(1)
        self.assertEqual(raised(Inside, passage.carry_out, 1).walker, 2)
        passage.look(2)
        self.assertEqual(passage.holding(1), ())
        passage.carry_out(1)

    def test_holding_before_the_drained_change(self):
        # As long as 0 is not carried out, everybody who is inside entered before it was.
        passage = Passage(ROUND, (), ((0, 1),))
        passage.enter(0)
        passage.enter(0)
        self.assertEqual(passage.holding(1), (0, 1))
        self.assertEqual(raised(Waiting, passage.carry_out, 1).other, 0)
        self.assertEqual(passage.ready(), (0, 2))


class RegimeTest(PassageCase):
    def test_one_that_is_taken(self):
        passage = Passage(HOUSE)
        passage.carry_out(2)
        passage.carry_out(0)
        self.assertIsNone(passage.change_regime(WAITS, DRAINS))
        self.assertEqual(passage.regime(), (WAITS, DRAINS))
        self.assertEqual(passage.log(), (2, 0))
        # Back to less, and to nothing.
        for waits, drains in ((((2, 1),), ()), ((), ())):
            self.assertIsNone(passage.change_regime(waits, drains))
            self.assertEqual(passage.regime(), (waits, drains))

    def test_what_is_told_is_what_was_passed(self):
        passage = Passage(HOUSE, ((2, 0), (8, 9)), ())
        self.assertEqual(passage.regime(), (((2, 0), (8, 9)), ()))
        passage.change_regime((), ((7, 8),))
        self.assertEqual(passage.regime(), ((), ((7, 8),)))

    def test_too_late(self):
        passage = Passage(HOUSE)
        passage.carry_out(0)
        # Whether 2 is done by now or not.
        self.assertEqual(raised(TooLate, passage.change_regime, ((2, 0),), ()).name, 0)
        passage.carry_out(2)
        self.assertEqual(raised(TooLate, passage.change_regime, ((2, 0),), ()).name, 0)
        self.assertEqual(raised(TooLate, passage.change_regime, (), ((2, 0),)).name, 0)
        self.assertEqual(raised(TooLate, passage.change_regime, ((1, 0), (1, 2)), ()).name, 0)
        self.assertEqual(raised(TooLate, passage.change_regime, ((1, 2),), ()).name, 2)
        # By others that the plan does not have.
        self.assertEqual(raised(TooLate, passage.change_regime, ((1, 8), (8, 2)), ()).name, 2)
        self.assertIsNone(passage.change_regime(((8, 0), (8, 2)), ()))
        self.assertIsNone(passage.change_regime(((0, 2),), ((0, 2),)))

    def test_crossed(self):
        passage = Passage(ROUND)
        passage.enter(0)
        passage.carry_out(2)
        passage.carry_out(1)
        passage.carry_out(0)
        self.assertEqual(raised(Crossed, passage.change_regime, (), ((2, 0),)).name, 0)
        self.assertEqual(raised(Crossed, passage.change_regime, (), ((2, 1), (2, 0))).name, 1)
        self.assertEqual(raised(Crossed, passage.change_regime, ((2, 1),), ((1, 0),)).name, 0)
        # Also when the walker has ended.
        passage.look(0)
        self.assertEqual(raised(Crossed, passage.change_regime, (), ((2, 0),)).name, 0)
        self.assertEqual(passage.regime(), ((), ()))
        self.assertIsNone(passage.change_regime(((2, 0),), ()))

    def test_not_crossed(self):
        passage = Passage(ROUND)
        passage.enter(0)
        passage.carry_out(0)
        passage.look(0)
        passage.carry_out(1)
        passage.enter(1)
        # The walker had ended when 1 came; the others entered behind 0, or at an end.
        self.assertIsNone(passage.change_regime((), ((0, 1),)))
        passage = Passage((ROUND[0], (0, 1), (("read", 2, ((1, 1),), 0), ("end", "good"))))
        passage.carry_out(0)
        passage.enter(0)
        passage.carry_out(1)
        self.assertIsNone(passage.change_regime((), ((0, 1),)))
        self.assertEqual(raised(Crossed, passage.fork().change_regime, (), ((0, 1), (0, 2))), None)

    def test_too_late_goes_first(self):
        # 1 crossed, and 2, a later one of the log, came before 3.
        passage = Passage((plan_of((0,), (1,), (2,), (3,))[0], (0,), (("read", 0, (), 0),)))
        passage.enter(0)
        for name in (0, 1, 2):
            passage.carry_out(name)
        self.assertEqual(raised(TooLate, passage.change_regime, ((3, 2),), ((0, 1),)).name, 2)
        self.assertEqual(raised(Crossed, passage.change_regime, ((1, 2),), ((0, 1),)).name, 1)

    def test_tangled_goes_ahead_of_both(self):
        passage = Passage(ROUND)
        passage.enter(0)
        passage.carry_out(2)
        passage.carry_out(1)
        before = (passage.regime(), passage.history())
        self.assertEqual(raised(Tangled, passage.change_regime, ((0, 1), (1, 0)), ((2, 1),)).name, 0)
        self.assertEqual((passage.regime(), passage.history()), before)

    def test_a_new_regime_holds_at_once(self):
        passage = Passage(ROUND)
        passage.enter(0)
        passage.carry_out(0)
        self.assertEqual(passage.ready(), (1, 2))
        passage.change_regime(((2, 1),), ((0, 2),))
        self.assertEqual((passage.ready(), passage.holding(2), passage.holding(1)), ((), (0,), (0,)))
        passage.look(0)
        self.assertEqual(passage.ready(), (2,))


class ForkTest(PassageCase):
    def test_forks_go_their_own_ways(self):
        passage = Passage(ROUND, (), ((0, 1),))
        passage.enter(0)
        passage.look(0)
        other = passage.fork()
        third = other.fork()
        self.assertEqual(other.__class__, Passage)
        for one in (other, third):
            self.assertEqual((one.history(), one.regime(), one.versions()),
                             (passage.history(), passage.regime(), passage.versions()))
        other.carry_out(0)
        other.look(0)
        other.carry_out(1)
        other.change_regime(((0, 1),), ())
        third.enter(1)
        third.look(0)
        self.assertEqual(passage.history(), (("enter", 0), ("look", 0)))
        self.assertEqual((passage.regime(), passage.ready(), passage.log()), (((), ((0, 1),)), (0, 2), ()))
        self.assertEqual((other.walker_at(0), third.walker_at(0), passage.walker_at(0)),
                         ((0, (0, 1), 1), (0, (0, 0), 0), (0, (0,), 0)))
        self.assertEqual((len(other), len(third), len(passage)), (1, 2, 1))
        passage.carry_out(0)
        self.assertEqual(raised(Inside, passage.carry_out, 1).walker, 0)
        self.assertEqual(other.log(), (0, 1))

    def test_forks_keep_who_has_ended(self):
        passage = Passage(ROUND)
        passage.enter(0)
        passage.carry_out(2)
        passage.carry_out(0)
        passage.look(0)
        passage.carry_out(1)
        other = passage.fork()
        self.assertEqual(raised(Crossed, other.change_regime, (), ((2, 0),)).name, 0)
        self.assertIsNone(other.change_regime((), ((0, 1),)))
        self.assertEqual(raised(Ended, other.look, 0).walker, 0)


class DrawnTest(PassageCase):
    def test_histories(self):
        chance, words = random.Random(111), set()
        for k in range(160):
            plan, waits, drains = some_ruled(chance, 6, 5)
            if k % 2:
                plan = some_busy_house(chance, ((1, 1, 1), (2, 1), (1, 2, 1), (2, 2)))
                waits, drains = (), ()
            pairs = [(Passage(plan, waits, drains), Replay(plan, waits, drains))]
            for _ in range(40):
                passage, replay = chance.choice(pairs)
                words.add(self.some_step(chance, passage, replay))
                if chance.random() < 0.04 and len(pairs) < 4:
                    pairs.append((passage.fork(), replay.fork()))
                if chance.random() < 0.3:
                    self.require_same(passage, replay)
            for passage, replay in pairs:
                self.require_same(passage, replay)
        self.assertEqual(words, {"changed", "UnknownName", "Done", "Waiting", "Inside", "entered", "UnknownStart", "looked",
                                 "UnknownWalker", "Ended", "replaced", "Tangled", "TooLate", "Crossed"})

    def test_refused_calls_change_nothing(self):
        chance = random.Random(112)
        for _ in range(60):
            plan, waits, drains = some_ruled(chance, 5, 5)
            passage, replay = Passage(plan, waits, drains), Replay(plan, waits, drains)
            for _ in range(15):
                before = (passage.history(), passage.regime(), passage.ready(), passage.versions(), len(passage))
                if self.some_step(chance, passage, replay) not in ("changed", "entered", "looked", "replaced"):
                    after = (passage.history(), passage.regime(), passage.ready(), passage.versions(), len(passage))
                    self.assertEqual(before, after)

    def test_any_values(self):
        passage = Passage(HOUSE)
        for value in ODD + (deep([], 40), "x" * 200000, (0,) * 200000):
            before = repr(value)
            if value != 0 or value.__class__ is bool:
                self.assertEqual(raised(UnknownStart, passage.enter, value).start, value)
            for error, call, name in ((UnknownWalker, passage.look, "walker"), (UnknownWalker, passage.walker_at, "walker"),
                                      (UnknownWalker, passage.entered_at, "walker"), (UnknownName, passage.holding, "name"),
                                      (UnknownName, passage.carry_out, "name")):
                self.assertIs(getattr(raised(error, call, value), name), value)
            self.assertEqual(repr(value), before)
        self.assertEqual(passage.history(), ())

    def test_the_arguments_are_the_same_afterwards(self):
        case = (HOUSE, WAITS, DRAINS)
        before = copy.deepcopy(case)
        passage = Passage(*case)
        passage.enter(0)
        passage.carry_out(2)
        passage.change_regime(*case[1:])
        self.assertEqual(repr(case), repr(before))


if __name__ == "__main__":
    unittest.main()
