"""bentplane.errors: the classes of the interface, their bases, their attributes."""

import inspect
import unittest

from bentplane import errors
from tests import samples

CLASSES = {
    "BadPair": ("thing",), "BadPiece": ("place",), "BadStep": ("thing",), "BadPlace": ("thing",),
    "BadFamily": ("place",), "BadWord": ("place",), "NotResting": ("thing",), "NotGrowing": ("thing",),
    "NotFinite": ("certificate",), "NotFree": ("certificate",), "BadTrade": ("thing",), "BadExchange": ("thing",),
    "BadName": ("name",), "NoName": ("name",), "Here": ("name",), "BadPromise": ("thing",),
    "Broken": ("promise", "certificate"), "BadText": ("line",), "NothingToUndo": (), "NothingToRedo": (),
}


class Errors(unittest.TestCase):
    def test_base_class(self):
        self.assertEqual(errors.PlaneError.__bases__, (Exception,))
        self.assertEqual(errors.PlaneError.__module__, "bentplane.errors")

    def test_just_the_classes_of_the_interface(self):
        found = {name for name, _ in inspect.getmembers(errors, inspect.isclass)}
        self.assertEqual(found, set(CLASSES) | {"PlaneError"})

    def test_direct_subclasses(self):
        for name in CLASSES:
            with self.subTest(name=name):
                made = getattr(errors, name)
                self.assertEqual(made.__bases__, (errors.PlaneError,))
                self.assertEqual(made.__module__, "bentplane.errors")
                self.assertEqual(made.__name__, name)

    def test_parameters_are_attributes(self):
        values = samples.odd_values()
        for name, parameters in CLASSES.items():
            made = getattr(errors, name)
            for at in range(len(values)):
                given = [values[at - k] for k in range(len(parameters))]
                by_position = made(*given)
                by_name = made(**dict(zip(parameters, given)))
                for error in (by_position, by_name):
                    self.assertEqual(sorted(vars(error)), sorted(parameters))
                    for parameter, value in zip(parameters, given):
                        self.assertIs(getattr(error, parameter), value)

    def test_raised_and_caught(self):
        for name, parameters in CLASSES.items():
            with self.assertRaises(errors.PlaneError) as caught:
                raise getattr(errors, name)(*[[k] for k in range(len(parameters))])
            self.assertEqual(list(vars(caught.exception).values()), [[k] for k in range(len(parameters))])

    def test_number_of_parameters(self):
        for name, parameters in CLASSES.items():
            found = inspect.signature(getattr(errors, name).__init__).parameters
            named = [part for part in list(found)[1:] if found[part].kind == found[part].POSITIONAL_OR_KEYWORD]
            self.assertEqual(tuple(named), parameters)


if __name__ == "__main__":
    unittest.main()
