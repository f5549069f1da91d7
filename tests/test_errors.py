import unittest

from hoursums import errors
from plain import NO_INTEGERS

BASES = {"WrongValue": ValueError, "NoAnswer": ArithmeticError}
LISTED = {
    "WrongValue": (
        ("InvalidText", "given"), ("InvalidNumber", "given"), ("InvalidHour", "given"), ("InvalidIndex", "given"),
        ("NotHours", "given"), ("OtherClock", "given"), ("InvalidHours", "index"),
    ),
    "NoAnswer": (("TooMany", "number"), ("Empty", None), ("Broken", "index"), ("NothingToUndo", None)),
}
ALL = [(base, name, attribute) for base, rows in LISTED.items() for name, attribute in rows]


class ErrorsTest(unittest.TestCase):
    def test_base_classes(self):
        for base, python_base in BASES.items():
            self.assertEqual(getattr(errors, base).__bases__, (python_base,))
        for base, name, _ in ALL:
            self.assertEqual(getattr(errors, name).__bases__, (getattr(errors, base),))

    def test_no_error_belongs_to_two_classes_of_the_package(self):
        for base, name, _ in ALL:
            own = [each for each in getattr(errors, name).__mro__ if each.__module__.startswith("hoursums")]
            self.assertEqual(own, [getattr(errors, name), getattr(errors, base)])

    def test_each_is_defined_in_its_file(self):
        for name in [*BASES, *[name for _, name, _ in ALL]]:
            self.assertEqual(getattr(errors, name).__module__, "hoursums.errors")

    def test_attributes_are_kept(self):
        for _, name, attribute in ALL:
            if attribute is None:
                continue
            for value in NO_INTEGERS + (0, 3, -1, 10 ** 5000):
                made = getattr(errors, name)
                self.assertIs(vars(made(value))[attribute], value)
                self.assertIs(vars(made(**{attribute: value}))[attribute], value)
                self.assertEqual(list(vars(made(value))), [attribute])

    def test_attributes_are_needed(self):
        for _, name, attribute in ALL:
            if attribute is not None:
                self.assertRaises(TypeError, getattr(errors, name))

    def test_errors_without_attributes(self):
        for name in ("Empty", "NothingToUndo", "WrongValue", "NoAnswer"):
            self.assertEqual(vars(getattr(errors, name)()), {})

    def test_they_are_raised_and_caught_by_their_bases(self):
        for base, name, attribute in ALL:
            args = () if attribute is None else (3,)
            for caught in (getattr(errors, name), getattr(errors, base), BASES[base]):
                with self.assertRaises(caught):
                    raise getattr(errors, name)(*args)


if __name__ == "__main__":
    unittest.main()
