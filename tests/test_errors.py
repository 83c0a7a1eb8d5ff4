"""Point 85: the exceptions."""

import copy
import inspect
import unittest

from payorder import errors
from samples import LONG, ODD_VALUES

ATTRIBUTES = {
    "NoDemand": "demand", "NoDemands": None, "NoOffer": "offer", "NoOffers": None, "NoOrder": None,
    "NotOrderable": "ring", "NoIndex": "index", "NoChoice": None, "NotCovered": "demand", "NoIntervals": None,
    "NoVertex": "vertex", "NoBalls": None, "NoPosition": "position", "NoPositions": None, "NoAmount": "amount",
    "TooMany": "limit", "LastDemand": None, "BadTable": None, "BadPrices": None, "BadPenalties": None,
    "NothingToUndo": None, "NoMoment": "at", "NoOperations": None, "Failed": "index", "Blocked": "ring",
    "BadText": "line",
}

ARGUMENTS = ODD_VALUES + (0, 1, -1, LONG, -LONG, (), (0, 1), ((0, 1, 2), (0, 1, 2)))


def created(name, argument):
    made = getattr(errors, name)
    return made() if ATTRIBUTES[name] is None else made(argument)


class TestErrors(unittest.TestCase):
    def test_base_is_a_value_error(self):
        self.assertEqual(errors.OrderError.__bases__, (ValueError,))

    def test_each_is_a_direct_subclass(self):
        for name in ATTRIBUTES:
            with self.subTest(name):
                self.assertEqual(getattr(errors, name).__bases__, (errors.OrderError,))
                self.assertEqual(getattr(errors, name).__name__, name)

    def test_there_are_no_others(self):
        names = [name for name, found in inspect.getmembers(errors, inspect.isclass)]
        self.assertEqual(sorted(names), sorted([*ATTRIBUTES, "OrderError"]))

    def test_each_is_defined_in_the_module(self):
        for name in [*ATTRIBUTES, "OrderError"]:
            self.assertEqual(getattr(errors, name).__module__, "payorder.errors")

    def test_each_is_an_instance_of_no_other(self):
        for name in ATTRIBUTES:
            error = created(name, 3)
            self.assertIsInstance(error, errors.OrderError)
            self.assertIsInstance(error, ValueError)
            for other in ATTRIBUTES:
                with self.subTest((name, other)):
                    self.assertEqual(isinstance(error, getattr(errors, other)), name == other)

    def test_arguments_are_attributes_unchanged(self):
        for name, attribute in ATTRIBUTES.items():
            if attribute is None:
                continue
            for argument in ARGUMENTS:
                with self.subTest((name, repr(argument)[:60])):
                    before = copy.deepcopy(argument)
                    error = getattr(errors, name)(argument)
                    self.assertIs(getattr(error, attribute), argument)
                    self.assertEqual(repr(argument), repr(before))
                    self.assertEqual(list(vars(error)), [attribute])

    def test_arguments_have_these_names(self):
        for name, attribute in ATTRIBUTES.items():
            if attribute is not None:
                error = getattr(errors, name)(**{attribute: 7})
                self.assertEqual(getattr(error, attribute), 7)

    def test_the_argument_is_needed(self):
        for name, attribute in ATTRIBUTES.items():
            if attribute is not None:
                with self.assertRaises(TypeError):
                    getattr(errors, name)()

    def test_those_without_arguments_have_no_attributes(self):
        for name, attribute in ATTRIBUTES.items():
            if attribute is None:
                error = getattr(errors, name)()
                self.assertEqual((vars(error), error.args), ({}, ()))

    def test_the_message_is_the_name(self):
        # Logs and consoles show it.
        for name in ATTRIBUTES:
            for argument in ARGUMENTS:
                self.assertEqual(str(created(name, argument)), name)

    def test_each_can_be_raised_and_caught(self):
        for name in ATTRIBUTES:
            for caught in (getattr(errors, name), errors.OrderError, ValueError):
                with self.subTest((name, caught.__name__)), self.assertRaises(caught):
                    raise created(name, [1])


if __name__ == "__main__":
    unittest.main()
