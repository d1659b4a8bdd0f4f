"""Plans: which values are plans, which part is told, and the places of changes."""

import copy
import random
import unittest

from leavefirst.errors import InvalidPlan, UnknownName
from leavefirst.plans import beginning, ending, names_of, place_of, require_plan
from tests.helper import END, HALL, HOUSE, HOUSE_NODES, ODD, deep, plan_of, raised, some_cases

FULL = (
    ((9, ((0, 9), (1, 0), (2, 3), (3, 9))), (0, ((9, 0), (8, 0), (7, 0))), (5, ()), (1, ((4, 0),))),
    tuple(range(12)),
    (("read", 3, tuple((k, 11 - k) for k in range(10)), 11), ("read", 0, (), 0)) + 10 * (("end", "misled"),),
)
# Each is no sign and no node, and no index where there are at most 12 signs, starts or nodes.
NO_NUMBERS = ODD + (12, deep(0, 40), deep(None, 40))
NO_DIGITS = NO_NUMBERS + (10,)


def has(value, part):
    """Return whether require_plan tells this very part of the value."""
    error = raised(InvalidPlan, require_plan, value)
    return error is not None and repr(error.part) == repr(part)


def with_sign(sign, place=0, many=1):
    """Return what has this sign, among as many, at this place; the others have no changes."""
    signs = [(k, ()) for k in range(many)]
    signs[place] = sign
    return (tuple(signs), (0,), END)


def with_node(node, place=0, many=12):
    """Return what has this node, among as many, at this place, and the signs of the house."""
    nodes = [("end", "good")] * many
    nodes[place] = node
    return (HOUSE[0], (0,), tuple(nodes))


class FrameTest(unittest.TestCase):
    def test_returns_the_plan_itself(self):
        for plan in (HOUSE, FULL, plan_of(()), plan_of((0, 1, 2, 3), (), (4,), (5, 6, 7))):
            self.assertIs(require_plan(plan), plan)
            self.assertIs(require_plan(value=plan), plan)

    def test_no_triple_of_tuples(self):
        signs, starts, nodes = HOUSE
        for value in NO_NUMBERS + (0, "abc", list(HOUSE), HOUSE[:2], HOUSE + ((),), (HOUSE,), (0, 1, 2)):
            self.assertTrue(has(value, None), value)
        for odd in ODD + (0, "abc", {0: 1}):
            if not isinstance(odd, tuple):
                for value in ((odd, starts, nodes), (signs, odd, nodes), (signs, starts, odd)):
                    self.assertTrue(has(value, None), value)
        for value in ((list(signs), starts, nodes), (signs, list(starts), nodes), (signs, starts, list(nodes))):
            self.assertTrue(has(value, None), value)

    def test_numbers_of_signs_starts_and_nodes(self):
        for many in (1, 4):
            plan = (((0, ()),) * many, (0,), END)
            self.assertIs(require_plan(plan), plan)
        for many in (0, 5):
            self.assertTrue(has((((0, ()),) * many, (0,), END), None))
        for many in (1, 12):
            plan = (((0, ()),), (0,), END * many)
            self.assertIs(require_plan(plan), plan)
        for many in (0, 13):
            self.assertTrue(has((((0, ()),), (0,), END * many), None))
        self.assertTrue(has((((0, ()),), (), END), None))

    def test_wrong_numbers_go_ahead_of_wrong_parts(self):
        self.assertTrue(has(((None,) * 5, (0,), END), None))
        self.assertTrue(has(((None,), (), END), None))
        self.assertTrue(has(((None,), (None,), (None,) * 13), None))


class SignsTest(unittest.TestCase):
    def test_what_is_no_pair(self):
        for odd in NO_NUMBERS + (0, [0, ()], (0, (), 0), (0, ((0, 1),), ())):
            for place in range(4):
                self.assertTrue(has(with_sign(odd, place, 4), ("sign", place)), odd)

    def test_values(self):
        for value in range(10):
            self.assertIsNone(raised(InvalidPlan, require_plan, with_sign((value, ()))))
        for odd in NO_DIGITS:
            self.assertTrue(has(with_sign((odd, ()), 2, 3), ("sign", 2)), odd)

    def test_changes_are_a_tuple_of_pairs(self):
        for odd in (None, 0, True, "", [], {}, [(0, 1)], {0: 1}, "01", (0, 1), ((0, 1), None), deep((), 40)):
            self.assertTrue(has(with_sign((0, odd), 1, 2), ("sign", 1)), odd)
        for odd in NO_NUMBERS + (0, [0, 1], (0, 1, 2), (0,)):
            if odd != (0, 0):
                self.assertTrue(has(with_sign((0, ((5, 0), odd))), ("sign", 0)), odd)

    def test_names_and_values_of_changes(self):
        for digit in range(10):
            self.assertIsNone(raised(InvalidPlan, require_plan, with_sign((0, ((digit, 9 - digit),)))))
        for odd in NO_DIGITS:
            self.assertTrue(has(with_sign((0, ((odd, 0),)), 3, 4), ("sign", 3)), odd)
            self.assertTrue(has(with_sign((0, ((5, 0), (0, odd))), 1, 4), ("sign", 1)), odd)

    def test_a_name_twice(self):
        self.assertTrue(has(plan_of((5,), (0, 1, 0), (2,)), ("sign", 1)))
        self.assertTrue(has(plan_of((5,), (0, 1), (2, 3, 5), (5,)), ("sign", 2)))
        self.assertTrue(has(plan_of((5,), (5,)), ("sign", 1)))
        self.assertTrue(has(plan_of((5,), (), (), (5,)), ("sign", 3)))

    def test_the_first_sign_that_is_none_is_told(self):
        doubled = (0, ((0, 0),))
        self.assertTrue(has(((doubled, doubled, None), (0,), END), ("sign", 1)))
        self.assertTrue(has(((doubled, None, doubled), (0,), END), ("sign", 1)))
        self.assertTrue(has(((None, None), (None,), (None,)), ("sign", 0)))

    def test_numbers_of_changes(self):
        self.assertIsNone(raised(InvalidPlan, require_plan, plan_of((0, 1, 2, 3), (4, 5, 6, 7))))
        self.assertTrue(has(plan_of((9,), (0, 1, 2, 3, 4)), ("sign", 1)))
        for rows in (((0, 1, 2, 3), (4, 5, 6, 7), (8,)), ((0, 1, 2), (3, 4), (5, 6), (7, 8, 9))):
            self.assertTrue(has(plan_of(*rows), None))

    def test_too_many_changes_stand_between_signs_and_starts(self):
        signs = plan_of((0, 1, 2, 3), (4, 5, 6, 7), (8,), ())[0]
        self.assertTrue(has((signs, (None,), (None,)), None))
        self.assertTrue(has((signs[:3] + (None,), (0,), END), ("sign", 3)))
        self.assertTrue(has((signs[:3] + ((0, ((8, 0),)),), (0,), END), ("sign", 3)))


class StartsTest(unittest.TestCase):
    def test_right_ones(self):
        for starts in ((0,), (11,), (0, 11), tuple(range(12))):
            self.assertIsNone(raised(InvalidPlan, require_plan, ((HALL,), starts, END * 12)))

    def test_wrong_ones(self):
        for starts in ((1, 0), (0, 0), (0, 2, 1), (0, 1, 1), (12,), (0, 12), (-1, 0), (0, 1, 2) * 3):
            self.assertTrue(has(((HALL,), starts, END * 12), ("starts",)), starts)
        for odd in NO_NUMBERS:
            for starts in ((odd,), (odd, 1), (0, odd)):
                self.assertTrue(has(((HALL,), starts, END * 12), ("starts",)), starts)
        self.assertTrue(has(((HALL,), (0, 1), END), ("starts",)))

    def test_they_go_ahead_of_nodes(self):
        self.assertTrue(has(((HALL,), (1,), (None,)), ("starts",)))


class NodesTest(unittest.TestCase):
    def test_right_ones(self):
        every = tuple((k, k) for k in range(10))
        for node in (("end", "good"), ("end", "misled"), ("read", 2, every, 11), ("read", 0, (), 0),
                     ("read", 0, ((9, 11),), 0), ("read", 1, ((0, 5), (9, 5)), 5)):
            for place in (0, 11):
                self.assertIsNone(raised(InvalidPlan, require_plan, with_node(node, place)))

    def test_what_is_no_node(self):
        wrong = NO_NUMBERS + (
            0, ("end",), ("end", "good", 0), ["end", "good"], ("end", "Good"), ("end", "read"), ("good", "end"),
            ("end", ("good",)), ("end", None), ("end", ["good"]), ("end", 0), ("End", "good"), ("misled",),
            ("read",), ("read", 0, ()), ("read", 0, (), 0, 0), ["read", 0, (), 0], ("look", 0, (), 0),
            (None, 0, (), 0), (["read"], 0, (), 0), ("end", 0, (), 0), ("read", "good"), ("read", 0),
        )
        for node in wrong:
            for place in (0, 5, 11):
                self.assertTrue(has(with_node(node, place), ("node", place)), node)

    def test_each_part_of_a_read(self):
        for odd in NO_NUMBERS + (3,):
            self.assertTrue(has(with_node(("read", odd, (), 0)), ("node", 0)), odd)
        for odd in NO_NUMBERS:
            self.assertTrue(has(with_node(("read", 0, (), odd)), ("node", 0)), odd)
            self.assertTrue(has(with_node(("read", 0, ((0, 1), (1, odd)), 0)), ("node", 0)), odd)
        for odd in NO_DIGITS:
            self.assertTrue(has(with_node(("read", 0, ((odd, 0),), 0)), ("node", 0)), odd)

    def test_each_kind_of_branches(self):
        for odd in (None, True, 0, "", "ab", [], {}, [(0, 1)], {0: 1}, (0, 1), (None,), ([0, 1],), ((0,),),
                    ((0, 1, 2),), ((),), ((0, 1), 0), deep((), 40)):
            self.assertTrue(has(with_node(("read", 0, odd, 0)), ("node", 0)), odd)
        for branches in (((1, 0), (0, 0)), ((0, 0), (0, 1)), ((0, 0), (0, 0)), ((0, 1), (0, 0)),
                         ((0, 0), (2, 0), (1, 0)), ((0, 0), (1, 0), (1, 1)), ((0, 0), (1, 0), (0, 1))):
            self.assertTrue(has(with_node(("read", 0, branches, 0)), ("node", 0)), branches)

    def test_nodes_that_point_outside(self):
        for many in (1, 2, 12):
            inside, outside = many - 1, many
            self.assertIsNone(raised(InvalidPlan, require_plan, with_node(("read", 0, ((3, inside),), 0), 0, many)))
            self.assertTrue(has(with_node(("read", 0, ((3, outside),), 0), 0, many), ("node", 0)))
            self.assertIsNone(raised(InvalidPlan, require_plan, with_node(("read", 0, (), inside), 0, many)))
            self.assertTrue(has(with_node(("read", 0, (), outside), 0, many), ("node", 0)))

    def test_the_first_node_that_is_none_is_told(self):
        self.assertTrue(has((HOUSE[0], (0,), END + (None, ("end", "bad"))), ("node", 1)))


def spots_of(value, path=()):
    """Return the paths of all parts of a value of tuples."""
    found = [path]
    if isinstance(value, tuple):
        for k, part in enumerate(value):
            found += spots_of(part, path + (k,))
    return found


def put_at(value, path, thing):
    if not path:
        return thing
    k = path[0]
    return value[:k] + (put_at(value[k], path[1:], thing),) + value[k + 1:]


def thing_at(value, path):
    for k in path:
        value = value[k]
    return value


class AnyValueTest(unittest.TestCase):
    """A part that is put in the place of any part of a plan never gives an error of another class."""

    def told(self, value):
        """Return the repr of the part that is told; assert that nothing else is raised or modified."""
        before = copy.deepcopy(value)
        error = raised(InvalidPlan, require_plan, value)
        self.assertEqual(repr(value), repr(before))
        return None if error is None else repr(error.part)

    def expected(self, plan, path):
        """Return the part that is told if something odd of no right kind stands at the path."""
        if len(path) < 2:
            return repr(None)
        return repr((("sign", path[1]), ("starts",), ("node", path[1]))[path[0]])

    def test_odd_things_everywhere(self):
        things = (None, True, False, -1, 10 ** 29, -10 ** 29, "x", [], {}, [deep(0, 39)], {0: deep("x", 39)})
        for plan in (HOUSE, FULL):
            for path in spots_of(plan):
                for thing in things:
                    value = put_at(plan, path, thing)
                    self.assertEqual(self.told(value), self.expected(plan, path), value)

    def test_rows_that_are_longer_shorter_or_lists(self):
        for plan in (HOUSE, FULL):
            for path in spots_of(plan):
                row = thing_at(plan, path)
                if isinstance(row, tuple):
                    self.assertEqual(self.told(put_at(plan, path, list(row))), self.expected(plan, path))
                    self.assertEqual(self.told(put_at(plan, path, row + (None,))), self.longer(plan, path, row))
                    self.told(put_at(plan, path, row[1:]))

    def longer(self, plan, path, row):
        """Return the part that is told if None stands behind the last item of the row."""
        if len(path) == 1 and len(row) < (4, 13, 12)[path[0]]:
            return self.expected(plan, path + (len(row),))
        return self.expected(plan, path)

    def test_some_values(self):
        chance = random.Random(1)
        for _ in range(3000):
            value = self.some_value(chance, chance.randint(0, 6))
            self.assertIsNotNone(self.told(value))
            self.told((value, value, value))
            self.told(((value,), (0,), END))
            self.told(((HALL,), (value,), END))
            self.told(((HALL,), (0,), (value,)))

    def some_value(self, chance, depth):
        if depth == 0:
            return chance.choice(ODD)
        parts = [self.some_value(chance, chance.randint(0, depth - 1)) for _ in range(chance.randint(0, 4))]
        return chance.choice((tuple(parts), parts, dict(enumerate(parts)), (0, tuple(parts)), ("end", parts)))

    def test_large_values(self):
        many = tuple(range(200000))
        self.assertEqual(self.told(many), repr(None))
        self.assertEqual(self.told((many, (0,), END)), repr(None))
        self.assertEqual(self.told((((0, many),), (0,), END)), repr(("sign", 0)))
        self.assertEqual(self.told(((HALL,), many, END)), repr(("starts",)))
        self.assertEqual(self.told(((HALL,), (0,) * 200000, END)), repr(("starts",)))
        self.assertEqual(self.told(((HALL,), (0,), many)), repr(None))
        self.assertEqual(self.told(((HALL,), (0,), (("read", 0, ((0, 0),) * 60000, 0),))), repr(("node", 0)))


class PlacesTest(unittest.TestCase):
    def test_the_example(self):
        self.assertEqual((names_of(HOUSE), place_of(HOUSE, 2), ending(HOUSE, 0, 0)), ((0, 1, 2), (2, 1), 0))

    def test_all_versions_of_all_signs(self):
        plan = plan_of((9, 4), (), (0, 7, 1, 3), (5,))
        self.assertEqual(names_of(plan), (0, 1, 3, 4, 5, 7, 9))
        self.assertEqual([(name, *place_of(plan, name)) for name in names_of(plan)], [
            (0, 2, 1), (1, 2, 3), (3, 2, 4), (4, 0, 2), (5, 3, 1), (7, 2, 2), (9, 0, 1)])
        for sign, begun in enumerate(((None, 9, 4), (None,), (None, 0, 7, 1, 3), (None, 5))):
            ended = begun[1:] + (None,)
            for version in range(len(begun)):
                self.assertEqual(beginning(plan, sign, version), begun[version])
                self.assertEqual(ending(plan, sign, version), ended[version])

    def test_arguments_by_name(self):
        self.assertEqual(names_of(plan=HOUSE), (0, 1, 2))
        self.assertEqual(place_of(name=1, plan=HOUSE), (1, 1))
        self.assertEqual(beginning(version=1, sign=2, plan=HOUSE), 2)
        self.assertEqual(ending(version=0, sign=2, plan=HOUSE), 2)

    def test_no_names(self):
        plan = plan_of((), ())
        self.assertEqual((names_of(plan), beginning(plan, 1, 0), ending(plan, 1, 0)), ((), None, None))

    def test_some_plans(self):
        for plan, _, _ in some_cases(2, 200):
            for name in names_of(plan):
                sign, version = place_of(plan, name)
                self.assertEqual(plan[0][sign][1][version - 1][0], name)
                self.assertEqual((beginning(plan, sign, version), ending(plan, sign, version - 1)), (name, name))

    def test_versions_beyond_the_last_one(self):
        for version in (-1, 2, 5):
            self.assertIsNone(beginning(HOUSE, 0, version))
        for version in (-1, 1, 5):
            self.assertIsNone(ending(HOUSE, 0, version))

    def test_unknown_names(self):
        for odd in ODD + (3, 9, 10, "1", [0], ((0, 1),), deep(0, 40)):
            error = raised(UnknownName, place_of, HOUSE, odd)
            self.assertIsNotNone(error, odd)
            self.assertIs(error.name, odd)

    def test_the_plan_is_the_same_afterwards(self):
        plan = copy.deepcopy(HOUSE)
        for call in (names_of, lambda plan: place_of(plan, 0), lambda plan: beginning(plan, 0, 1)):
            call(plan)
            self.assertEqual(repr(plan), repr(((HALL,) + HOUSE[0][1:], (0,), HOUSE_NODES)))


if __name__ == "__main__":
    unittest.main()
