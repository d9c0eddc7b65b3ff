"""The errors: their built-in bases, their arguments, and that none is another one."""

import unittest

from copyplaces import errors

# Each class with its built-in base and the names of its arguments.
LISTED = {
    "InvalidProgram": (ValueError, ("path",)),
    "InvalidPrices": (ValueError, ()),
    "InvalidClaim": (ValueError, ()),
    "NotBreaking": (ValueError, ()),
    "NotAClause": (ValueError, ("some",)),
    "ParseError": (ValueError, ("line",)),
    "UnknownPath": (LookupError, ("path",)),
    "UnknownLabel": (LookupError, ("label",)),
    "UnknownCheckpoint": (LookupError, ("number",)),
    "UnknownRecord": (LookupError, ("number",)),
    "LimitExceeded": (OverflowError, ("limit",)),
}
VALUES = [(), (0, 1), (3, 5, 7), 0, 8, -1, True, None, "a", [1, [2]], {"a": (1,)}]


class ErrorsTest(unittest.TestCase):
    def test_these_classes_and_no_others_are_defined(self):
        defined = {name for name, value in vars(errors).items()
                   if isinstance(value, type) and value.__module__ == errors.__name__}
        self.assertEqual(defined, set(LISTED))

    def test_each_is_a_direct_subclass_of_its_builtin(self):
        for name, (base, _) in LISTED.items():
            with self.subTest(name=name):
                self.assertEqual(getattr(errors, name).__bases__, (base,))

    def test_none_is_a_subclass_of_another(self):
        for one in LISTED:
            for other in LISTED:
                if one != other:
                    self.assertFalse(issubclass(getattr(errors, one), getattr(errors, other)))

    def test_arguments_are_kept_by_position_and_by_name(self):
        for name, (base, arguments) in LISTED.items():
            made = getattr(errors, name)
            for argument in arguments:
                for value in VALUES:
                    with self.subTest(name=name, value=value):
                        self.assertIs(getattr(made(value), argument), value)
                        self.assertIs(getattr(made(**{argument: value}), argument), value)
                        self.assertIsInstance(str(made(value)), str)

    def test_an_argument_is_required_where_one_is_listed(self):
        for name, (_, arguments) in LISTED.items():
            if arguments:
                with self.subTest(name=name), self.assertRaises(TypeError):
                    getattr(errors, name)()

    def test_those_without_arguments(self):
        for name in ("InvalidPrices", "InvalidClaim", "NotBreaking"):
            with self.subTest(name=name), self.assertRaises(getattr(errors, name)):
                raise getattr(errors, name)()

    def test_they_are_caught_by_their_builtins(self):
        for name, (base, arguments) in LISTED.items():
            with self.subTest(name=name), self.assertRaises(base):
                raise getattr(errors, name)(*[(0,) for _ in arguments])


if __name__ == "__main__":
    unittest.main()
