import copy
import inspect
import pickle
import unittest

from firstmet import errors
from firstmet.errors import MetError
from support import Case, anything

AT = ["BadShape", "BadBlock", "BadPattern", "BadAsk", "BadText", "NotPlain"]
VALUE = ["BadName", "BadStore", "BadRows", "BadIndex", "BadProgram", "BadPair", "BadMove", "BadAsks", "BadPlan",
         "BadCount", "Unlike"]
NOTHING = ["NothingDone", "TooMany", "TooLong"]


def made_in_every_way():
    """Each error class with each way of making it: (class, error, what it keeps)."""
    ways = []
    for names, kept in ((AT, "at"), (VALUE, "value")):
        for name in names:
            error = getattr(errors, name)
            for thing in (3, -1, (), (0, 2), None, ("sale", -1), "x", [1], {}):
                ways.append((error, error(thing), {kept: thing}))
                ways.append((error, error(**{kept: thing}), {kept: thing}))
    for name in NOTHING:
        ways.append((getattr(errors, name), getattr(errors, name)(), {}))
    return ways


class Errors(Case):
    def test_the_file_has_just_these_classes(self):
        here = [name for name, _ in inspect.getmembers(errors, inspect.isclass)]
        self.assertEqual(len(AT + VALUE + NOTHING), 20)
        self.assertEqual(sorted(here), sorted(AT + VALUE + NOTHING + ["MetError"]))

    def test_each_stands_directly_under_met_error(self):
        self.assertEqual(MetError.__bases__, (ValueError,))
        for name in AT + VALUE + NOTHING:
            self.assertEqual(getattr(errors, name).__bases__, (MetError,), name)
            self.assertEqual(getattr(errors, name).__module__, "firstmet.errors", name)

    def test_each_keeps_what_it_was_made_with(self):
        for error, made, kept in made_in_every_way():
            with self.subTest(error=error, kept=kept):
                self.assertEqual(vars(made), kept)

    def test_each_keeps_the_very_thing(self):
        for thing in anything():
            self.assertIs(errors.BadShape(thing).at, thing)
            self.assertIs(errors.BadStore(value=thing).value, thing)

    def test_each_is_caught_by_its_own_name_and_as_met_error_and_value_error(self):
        for error, made, _ in made_in_every_way():
            for caught in (error, MetError, ValueError):
                with self.subTest(error=error, caught=caught):
                    with self.assertRaises(caught) as told:
                        raise made
                    self.assertIs(told.exception, made)

    def test_each_is_an_instance_of_no_other_class_of_the_package(self):
        classes = [getattr(errors, name) for name in AT + VALUE + NOTHING]
        for error, made, _ in made_in_every_way():
            self.assertEqual([other for other in classes if isinstance(made, other)], [error])

    def test_each_asks_for_just_what_is_shown(self):
        for name in AT + VALUE:
            self.assertRaises(TypeError, getattr(errors, name))
            self.assertRaises(TypeError, getattr(errors, name), 1, 2)
        for name in AT:
            self.assertRaises(TypeError, getattr(errors, name), value=1)
        for name in VALUE:
            self.assertRaises(TypeError, getattr(errors, name), at=1)

    def test_met_error_is_made_without_arguments(self):
        self.assertEqual(vars(MetError()), {})
        self.assertRaises(ValueError, self.throw, MetError())

    def test_copies_keep_what_was_kept(self):
        for name in AT + VALUE:
            made = getattr(errors, name)((1, 2))
            for other in (copy.copy(made), pickle.loads(pickle.dumps(made))):
                self.assertIs(other.__class__, made.__class__)
                self.assertEqual(vars(other), vars(made))

    def throw(self, error):
        raise error


if __name__ == "__main__":
    unittest.main()
