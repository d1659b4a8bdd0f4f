"""The interface as a whole: where everything is defined, and arguments by name, in any order."""

import importlib
import inspect
import unittest

from leavefirst.passages import Passage
from leavefirst.sessions import Session
from tests.helper import HOUSE

WAITS, DRAINS = ((2, 0),), ((0, 1),)
ONES, TWOS = (1,) * 10, (2,) * 10
RULED = {"plan": HOUSE, "waits": WAITS, "drains": DRAINS}
COSTS = {"plan": HOUSE, "prices": ONES, "fees": TWOS}
SIGHTS = {"node": 0, "sights": (0, 1)}
CERTIFICATE = ("broken", ("calm", WAITS, ()), (0, (0, 1)))
TEXT = "sign 0\nstarts 0\ngood\n"

FUNCTIONS = {
    "plans": {
        "require_plan": {"value": HOUSE}, "names_of": {"plan": HOUSE}, "place_of": {"plan": HOUSE, "name": 2},
        "beginning": {"plan": HOUSE, "sign": 2, "version": 1}, "ending": {"plan": HOUSE, "sign": 1, "version": 0},
    },
    "regimes": {
        "is_regime": RULED, "regime_of": RULED, "way_behind": {**RULED, "a": 2, "b": 1},
        "drain_behind": {**RULED, "c": 2, "d": 1}, "more_regimes": RULED,
    },
    "walks": {"walk": {"plan": HOUSE, **SIGHTS}, "still_walk": {"plan": HOUSE, "versions": (1, 0, 1), "node": 0}},
    "entering": {
        "needs": {**RULED, "sign": 0, "version": 1}, "cuts": RULED, "entered_by": {**RULED, "versions": (1, 1, 1)},
        "carry": {**RULED, "node": 0, "deeds": (("change", 2), ("enter",), ("look",))},
        "is_passable": {**RULED, **SIGHTS}, "deeds_for": {**RULED, **SIGHTS}, "hindrance": {**RULED, **SIGHTS},
    },
    "reached": {"leads": {**RULED, "state": (0, (0, 0, 0), (0, 0, 0))}, "reached_states": RULED, "is_calm": RULED,
                "bewildering": RULED},
    "clauses": {"two_clauses": {"plan": HOUSE, **SIGHTS}},
    "holding": {"barred_cuts": RULED, "holder": RULED},
    "fees": {"regime_price": {**COSTS, "waits": WAITS, "drains": DRAINS}, "least_worth": COSTS, "best_regime": COSTS,
             "lost_table": {"plan": HOUSE}},
    "claims": {"require_claim": {"plan": HOUSE, "claim": ("lost",)},
               "decide": {"plan": HOUSE, "claim": ("worth", 7), "*prices": ONES, "*fees": TWOS}},
    "checker": {"first_fault": {"plan": HOUSE, "certificate": CERTIFICATE, "*prices": ONES, "*fees": TWOS}},
    "texts": {"format_plan": {"plan": HOUSE}, "format_regime": {"waits": WAITS, "drains": DRAINS},
              "parse_plan": {"text": TEXT}, "parse_regime": {"text": "1 drains 0\n"}},
}
PASSAGE = {
    "enter": ("start",), "look": ("walker",), "walker_at": ("walker",), "entered_at": ("walker",), "__len__": (),
    "carry_out": ("name",), "ready": (), "holding": ("name",), "change_regime": ("waits", "drains"), "regime": (),
    "versions": (), "log": (), "history": (), "fork": (), "__init__": ("plan", "waits", "drains"),
}
SESSION = {
    "plan": (), "prices": (), "fees": (), "passage": ("waits", "drains"), "put_change": ("sign", "place", "name", "value"),
    "take_change": ("name",), "set_value": ("name", "value"), "set_first": ("sign", "value"), "put_node": ("place", "node"),
    "set_starts": ("starts",), "set_price": ("name", "price"), "set_fee": ("name", "fee"), "checkpoint": (),
    "restore": ("number",), "plan_at": ("number",), "decide": ("claim",), "record": ("claim",), "recorded": ("number",),
    "standing": ("number",), "__len__": (), "__init__": ("plan", "*prices", "*fees"),
}


def functions():
    """Return the list of (module, name, function, arguments) of the interface; a star tells what goes by name only."""
    found = []
    for module, rows in FUNCTIONS.items():
        for name, arguments in rows.items():
            found.append((module, name, getattr(importlib.import_module(f"leavefirst.{module}"), name), arguments))
    return found


def parameters_of(call):
    """Return the names of the parameters of a function, without self, those that go by name only with a star."""
    return [("*" if row.kind is row.KEYWORD_ONLY else "") + name
            for name, row in inspect.signature(call).parameters.items() if name != "self"]


class InterfaceTest(unittest.TestCase):
    def test_each_function_is_defined_in_its_file(self):
        for module, name, function, arguments in functions():
            self.assertTrue(inspect.isfunction(function))
            self.assertEqual((function.__module__, function.__name__), (f"leavefirst.{module}", name))

    def test_the_names_of_arguments(self):
        for _, name, function, arguments in functions():
            self.assertEqual(sorted(parameters_of(function)), sorted(arguments), name)

    def test_by_position_and_by_name(self):
        for _, name, function, arguments in functions():
            order = [word for word in parameters_of(function) if word[0] != "*"]
            by_name_only = {word[1:]: value for word, value in arguments.items() if word[0] == "*"}
            by_name = {word: arguments[word] for word in order}
            told = function(*by_name.values(), **by_name_only)
            turned = dict(reversed([*by_name.items(), *by_name_only.items()]))
            self.assertEqual(function(**turned), told, name)
            if by_name_only:
                with self.assertRaises(TypeError):
                    function(*by_name.values(), *by_name_only.values())

    def test_the_defaults(self):
        for _, name, function, arguments in functions():
            for word, row in inspect.signature(function).parameters.items():
                self.assertEqual(row.default, ONES if "*" + word in arguments else inspect.Parameter.empty, name)
        told = inspect.signature(Session).parameters
        self.assertEqual([told[word].default for word in ("prices", "fees")], [ONES, ONES])
        for call in (Passage, Session.passage):
            told = inspect.signature(call).parameters
            self.assertEqual([told[word].default for word in ("waits", "drains")], [(), ()])

    def test_the_classes(self):
        for made, rows, module in ((Passage, PASSAGE, "passages"), (Session, SESSION, "sessions")):
            self.assertEqual(made.__module__, f"leavefirst.{module}")
            self.assertEqual(made.__bases__, (object,))
            for name, words in rows.items():
                self.assertIn(name, vars(made))
                self.assertEqual(parameters_of(vars(made)[name]), list(words), name)

    def test_methods_by_name(self):
        session = Session(fees=TWOS, prices=ONES, plan=HOUSE)
        session.put_change(value=1, name=5, place=1, sign=0)
        session.set_value(value=2, name=5)
        session.set_first(value=1, sign=0)
        session.put_node(node=("end", "misled"), place=3)
        session.set_starts(starts=(0, 1))
        session.set_price(price=3, name=0)
        session.set_fee(fee=4, name=0)
        self.assertEqual(session.plan()[0][0], (1, ((0, 1), (5, 2))))
        self.assertEqual((session.plan()[1], session.plan()[2][3]), ((0, 1), ("end", "misled")))
        self.assertEqual((session.prices()[0], session.fees()[0]), (3, 4))
        session.take_change(name=5)
        self.assertEqual((session.checkpoint(), session.plan_at(number=0)), (0, session.plan()))
        session.restore(number=0)
        self.assertEqual((session.record(claim=("lost",)), session.standing(number=0)), (0, None))
        self.assertEqual(session.recorded(number=0), session.decide(claim=("lost",)))
        passage = session.passage(drains=DRAINS, waits=WAITS)
        passage.enter(start=0)
        passage.look(walker=0)
        passage.carry_out(name=2)
        passage.change_regime(drains=(), waits=())
        self.assertEqual((passage.walker_at(walker=0)[1], passage.entered_at(walker=0)), ((0,), (0, 0, 0)))
        self.assertEqual((passage.holding(name=1), passage.regime()), ((), ((), ())))


if __name__ == "__main__":
    unittest.main()
