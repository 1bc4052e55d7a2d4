"""The errors: what they are derived from, and what they keep."""

import unittest

from caseflow import errors
from caseflow.nets.nets import inputs_of, make_net
from caseflow.nets.clusters import steps_into
from tests.samples import C, F, ODD, same

WITH_MESSAGE = (
    "InvalidNet", "InvalidWorkflow", "InvalidMarking", "InvalidPlaces", "InvalidOrder", "InvalidPlan",
    "InvalidChances", "InvalidCosts", "InvalidLibrary", "InvalidTerm", "InvalidLog", "InvalidOperation",
    "ParseError", "InvalidCommand",
)

WITH_VALUE = (
    ("UnknownStep", KeyError, "name"),
    ("UnknownName", KeyError, "name"),
    ("InvalidRun", LookupError, "at"),
    ("InvalidNumber", IndexError, "value"),
    ("TooMany", OverflowError, "limit"),
    ("NotSound", RuntimeError, "paper"),
)


class Messages(unittest.TestCase):

    def test_flow_error(self):
        self.assertEqual(errors.FlowError.__bases__, (ValueError,))
        self.assertEqual(str(errors.FlowError("what is wrong")), "what is wrong")

    def test_derived_directly_from_flow_error(self):
        for name in WITH_MESSAGE:
            with self.subTest(name):
                self.assertEqual(getattr(errors, name).__bases__, (errors.FlowError,))

    def test_message(self):
        for name in WITH_MESSAGE:
            with self.subTest(name):
                self.assertEqual(str(getattr(errors, name)("what is wrong")), "what is wrong")

    def test_caught_as_flow_error(self):
        with self.assertRaises(errors.FlowError):
            inputs_of((), "a")
        with self.assertRaises(ValueError):
            make_net(3)


class Values(unittest.TestCase):

    def test_derived_directly_from_pythons_error(self):
        for name, base, _ in WITH_VALUE:
            with self.subTest(name):
                self.assertEqual(getattr(errors, name).__bases__, (base,))
                self.assertFalse(issubclass(getattr(errors, name), errors.FlowError))

    def test_not_derived_from_one_another(self):
        for name, _, _ in WITH_VALUE:
            for other, _, _ in WITH_VALUE:
                if name != other:
                    self.assertFalse(issubclass(getattr(errors, name), getattr(errors, other)), (name, other))

    def test_keeps_every_value(self):
        for name, _, attribute in WITH_VALUE:
            for value in ODD:
                error = getattr(errors, name)(value)
                self.assertTrue(same(vars(error), {attribute: value}), (name, value))

    def test_has_a_text_for_every_value(self):
        for name, _, _ in WITH_VALUE:
            for value in ODD:
                self.assertIsInstance(str(getattr(errors, name)(value)), str)

    def test_takes_one_value(self):
        for name, _, attribute in WITH_VALUE:
            with self.subTest(name):
                self.assertRaises(TypeError, getattr(errors, name))
                self.assertRaises(TypeError, getattr(errors, name), 1, 2)
                self.assertEqual(vars(getattr(errors, name)(**{attribute: 5})), {attribute: 5})

    def test_what_is_passed_can_be_changed_later(self):
        for name, _, attribute in WITH_VALUE:
            given = ["a", {"b": [1]}, ([2],)]
            error = getattr(errors, name)(given)
            given[1]["b"].append(3)
            given[2][0].append(4)
            given.append(5)
            self.assertEqual(getattr(error, attribute), ["a", {"b": [1]}, ([2],)])

    def test_raised_with_the_value(self):
        with self.assertRaises(KeyError) as caught:
            inputs_of(F, "ship")
        self.assertEqual(caught.exception.name, "ship")
        with self.assertRaises(IndexError) as caught:
            steps_into(C, 3)
        self.assertEqual(caught.exception.value, 3)


if __name__ == "__main__":
    unittest.main()
