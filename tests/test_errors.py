"""The error classes: their places, parameters and attributes."""

import unittest

from missedparts import errors

BASES = {"PartsError": ValueError, "StateError": RuntimeError, "LimitError": ArithmeticError}
KINDS = {
    "PartsError": {
        "InvalidText": ["value"], "InvalidLetters": ["value"], "InvalidLetter": ["value"],
        "InvalidNumber": ["value"], "InvalidPlace": ["value"], "InvalidMachine": ["value"],
        "InvalidProduct": ["value"], "InvalidSum": ["value"], "InvalidTest": ["value"],
        "InvalidLine": ["value"], "InvalidClaim": ["value"], "InvalidCommand": ["value"],
        "InvalidRows": ["position"], "InvalidKinds": ["position"], "InvalidProducts": ["position"],
        "InvalidTexts": ["position"], "InvalidPlaces": ["position"], "InvalidLevels": ["position"],
        "InvalidRow": ["row"],
    },
    "StateError": {
        "OtherLetters": ["one", "other"], "NotComeTo": ["place"], "NeverHeard": ["value"],
        "NothingToUndo": [], "CommandFailed": ["position"],
    },
    "LimitError": {"TooMany": ["what", "limit"]},
}
VALUES = [None, True, 0, -7, "", "ab", b"x", [], [1, ["a"]], (), ("a", [2]), {}, {"a": ["b"]}, {1, 2}, object(), len]


def all_kinds():
    """Each listed class with its name, the name of the one in front of it and its parameters."""
    for base, kinds in KINDS.items():
        for name, names in kinds.items():
            yield getattr(errors, name), name, base, names


class Families(unittest.TestCase):
    def test_front_classes_derive_from_the_built_in_ones_alone(self):
        for name, base in BASES.items():
            self.assertEqual(getattr(errors, name).__bases__, (base,))

    def test_each_class_derives_from_the_one_in_front_alone(self):
        for kind, name, base, _ in all_kinds():
            with self.subTest(name):
                self.assertEqual(kind.__name__, name)
                self.assertEqual(kind.__bases__, (getattr(errors, base),))

    def test_no_other_class_stands_there(self):
        found = {name for name, value in vars(errors).items() if isinstance(value, type)}
        self.assertEqual(found, set(BASES) | {name for _, name, _, _ in all_kinds()})

    def test_each_class_is_defined_there_with_its_own_constructor(self):
        for kind, name, _, names in all_kinds():
            with self.subTest(name):
                self.assertEqual(kind.__module__, "missedparts.errors")
                self.assertEqual("__init__" in vars(kind), bool(names))

    def test_of_which_classes_an_error_is_one(self):
        fronts = [getattr(errors, name) for name in BASES] + list(BASES.values())
        for kind, name, base, names in all_kinds():
            error = kind(*names)
            for front in fronts:
                expected = front in (getattr(errors, base), BASES[base])
                self.assertEqual(isinstance(error, front), expected, (name, front))
            for other, other_name, _, _ in all_kinds():
                self.assertEqual(isinstance(error, other), name == other_name, (name, other_name))
            for built_in in (TypeError, KeyError, LookupError, ZeroDivisionError, OverflowError):
                self.assertNotIsInstance(error, built_in)


class Attributes(unittest.TestCase):
    def assert_kept(self, error, names, values):
        self.assertEqual(sorted(vars(error)), sorted(names))
        for name, value in zip(names, values):
            kept = getattr(error, name)
            self.assertEqual(kept, value)
            self.assertIs(type(kept), type(value))

    def test_any_value_is_kept(self):
        for kind, name, _, names in all_kinds():
            for at in range(len(VALUES)):
                values = [VALUES[(at + k) % len(VALUES)] for k in range(len(names))]
                with self.subTest(name, values=values):
                    self.assert_kept(kind(*values), names, values)
                    self.assert_kept(kind(**dict(zip(names, values))), names, values)

    def test_names_may_be_passed_in_any_order(self):
        error = errors.TooMany(limit=10, what="letters")
        self.assertEqual((error.what, error.limit), ("letters", 10))
        error = errors.OtherLetters(other="abc", one="ab")
        self.assertEqual((error.one, error.other), ("ab", "abc"))

    def test_too_few_and_too_many_arguments(self):
        for kind, name, _, names in all_kinds():
            if names:
                with self.subTest(name):
                    self.assertRaises(TypeError, kind)
                    self.assertRaises(TypeError, kind, *names, "more")

    def test_two_errors_do_not_share_their_values(self):
        for kind, name, _, names in all_kinds():
            first = kind(*[f"first {each}" for each in names])
            second = kind(*[f"second {each}" for each in names])
            for each in names:
                with self.subTest(name, attribute=each):
                    self.assertEqual(getattr(first, each), f"first {each}")
                    self.assertEqual(getattr(second, each), f"second {each}")
                    setattr(second, each, "changed")
                    self.assertEqual(getattr(first, each), f"first {each}")
                    self.assertFalse(hasattr(kind, each))

    def test_deep_and_endless_values(self):
        deep = []
        for _ in range(5000):
            deep = [deep]
        self.assertIs(errors.InvalidText(deep).value, deep)
        endless = []
        endless.append(endless)
        self.assertIs(errors.InvalidClaim(value=endless).value, endless)


class Raising(unittest.TestCase):
    def test_raised_and_caught_as_each_of_its_classes(self):
        for kind, name, base, names in all_kinds():
            for caught in (kind, getattr(errors, base), BASES[base]):
                with self.subTest(name, caught=caught):
                    with self.assertRaises(caught) as held:
                        raise kind(*names)
                    self.assertIs(type(held.exception), kind)
                    for each in names:
                        self.assertEqual(getattr(held.exception, each), each)

    def test_not_caught_as_another_one(self):
        with self.assertRaises(errors.TooMany):
            try:
                raise errors.TooMany("letters", 10)
            except (errors.PartsError, errors.StateError):
                self.fail("caught as another one")

    def test_cause(self):
        cause = errors.NothingToUndo()
        with self.assertRaises(errors.CommandFailed) as held:
            raise errors.CommandFailed(2) from cause
        self.assertIs(held.exception.__cause__, cause)


if __name__ == "__main__":
    unittest.main()
