import unittest

from beamheads import errors
from tests.helpers import ErrorCase

CLASSES = {
    "BeamError": (ValueError, [
        ("InvalidName", ["value"]), ("InvalidNumber", ["value"]), ("InvalidKinds", ["position"]),
        ("InvalidChanges", ["position"]), ("InvalidHead", ["value"]), ("InvalidHeads", ["position"]),
        ("InvalidBeam", ["value"]), ("InvalidPlaces", ["value"]), ("InvalidLegs", ["position"]),
        ("InvalidLine", ["value"]), ("InvalidJob", ["value"]), ("InvalidJobs", ["position"]),
        ("InvalidTurn", ["name"]), ("InvalidAssignment", ["value"]), ("InvalidLog", ["position"]),
        ("InvalidPrices", ["name"]), ("InvalidText", ["line"]), ("InvalidCommand", ["value"])]),
    "MissingError": (LookupError, [
        ("UnknownHead", ["name"]), ("UnknownNumber", ["value"]), ("UnknownJob", ["name"]), ("NoTick", ["tick"])]),
    "StateError": (RuntimeError, [
        ("BeamTooShort", ["missing"]), ("NameTaken", ["name"]), ("SameJob", ["name"]), ("UnlikeBooks", []),
        ("NoAssignment", []), ("OutOfRange", ["place"]), ("Refused", ["chain"]), ("NothingToUndo", [])]),
    "LimitError": (ArithmeticError, [("TooMany", ["kind", "limit"])]),
}
ROWS = [(base, name, attributes) for base, (_, rows) in CLASSES.items() for name, attributes in rows]


class TestErrors(ErrorCase):

    def test_bases(self):
        for base, (builtin, rows) in CLASSES.items():
            self.assertEqual(getattr(errors, base).__bases__, (builtin,))
            for name, _ in rows:
                self.assertEqual(getattr(errors, name).__bases__, (getattr(errors, base),))

    def test_no_other_classes(self):
        listed = list(CLASSES) + [name for _, name, _ in ROWS]
        defined = [name for name, value in vars(errors).items() if isinstance(value, type)]
        self.assertEqual(sorted(defined), sorted(listed))

    def test_attributes_by_position_and_by_name(self):
        for value in (None, True, 7, "a", ["a", (1, 2)], {}, 10 ** 39):
            for _, name, attributes in ROWS:
                for error in (getattr(errors, name)(*[value] * len(attributes)),
                              getattr(errors, name)(**{attribute: value for attribute in attributes})):
                    for attribute in attributes:
                        self.assertIs(getattr(error, attribute), value)
                    self.assertEqual(sorted(vars(error)), sorted(attributes))

    def test_too_many_keeps_its_two_attributes_apart(self):
        error = errors.TooMany("jobs", 8)
        self.same([error.kind, error.limit], ["jobs", 8])
        error = errors.TooMany(limit=5, kind="jobs")
        self.same([error.kind, error.limit], ["jobs", 5])

    def test_other_numbers_of_arguments_are_refused(self):
        for _, name, attributes in ROWS:
            if attributes:
                self.assertRaises(TypeError, getattr(errors, name))
                self.assertRaises(TypeError, getattr(errors, name), *[1] * (len(attributes) + 1))

    def test_caught_by_the_class_in_front(self):
        for base, name, attributes in ROWS:
            for caught in (getattr(errors, base), CLASSES[base][0]):
                with self.assertRaises(caught):
                    raise getattr(errors, name)(*attributes)


if __name__ == "__main__":
    unittest.main()
