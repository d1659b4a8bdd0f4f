"""The errors of the interface: their bases and what they keep."""

import inspect
import unittest

from leavefirst import errors

TOLD = {
    ValueError: {
        "InvalidPlan": ("part",), "InvalidPrices": (), "InvalidFees": (), "InvalidClaim": (), "Tangled": ("name",),
        "AstrayWalk": ("read",), "Backward": ("read",), "ParseError": ("line",),
    },
    LookupError: {
        "UnknownName": ("name",), "UnknownSign": ("sign",), "UnknownPlace": ("place",), "UnknownStart": ("start",),
        "UnknownWalker": ("walker",), "UnknownCheckpoint": ("number",), "UnknownRecord": ("number",),
    },
    RuntimeError: {
        "Stuck": ("deed",), "Done": ("name",), "Waiting": ("name", "other"), "Inside": ("name", "walker"),
        "TooLate": ("name",), "Crossed": ("name",), "Ended": ("walker",),
    },
    OverflowError: {"TooMany": ("limit",), "LimitExceeded": ("limit",)},
}
ROWS = [(base, name, args) for base, rows in TOLD.items() for name, args in rows.items()]


class ErrorsTest(unittest.TestCase):
    def test_each_is_a_direct_subclass_of_its_builtin_error(self):
        for base, name, _ in ROWS:
            with self.subTest(name):
                self.assertEqual(getattr(errors, name).__bases__, (base,))

    def test_there_is_no_other_class(self):
        found = {name for name, _ in inspect.getmembers(errors, inspect.isclass)}
        self.assertEqual(found, {name for _, name, _ in ROWS})

    def test_arguments_are_kept_by_position_and_by_name(self):
        things = ([1], {"a": 2})
        for _, name, args in ROWS:
            made = getattr(errors, name)
            given = things[:len(args)]
            by_name = list(zip(args, given))
            for error in (made(*given), made(**dict(by_name)), made(**dict(by_name[::-1]))):
                with self.subTest(name):
                    for arg, thing in zip(args, given):
                        self.assertIs(getattr(error, arg), thing)

    def test_wrong_numbers_of_arguments_are_refused(self):
        for _, name, args in ROWS:
            if args:
                with self.subTest(name):
                    self.assertRaises(TypeError, getattr(errors, name))
                    self.assertRaises(TypeError, getattr(errors, name), *args, 1)

    def test_each_is_caught_by_its_own_name_and_no_other(self):
        for _, name, args in ROWS:
            error = getattr(errors, name)(*args)
            caught = [other for _, other, _ in ROWS if isinstance(error, getattr(errors, other))]
            with self.subTest(name):
                self.assertEqual(caught, [name])


if __name__ == "__main__":
    unittest.main()
