"""[0.16]: the errors."""

import inspect
import unittest

from hardbits import errors

WITH_MESSAGE = ("InvalidFraction", "InvalidRow", "InvalidTruth", "InvalidFamily", "InvalidMeasure", "InvalidMix",
                "InvalidDraw", "InvalidWord", "InvalidDesign", "InvalidAdvice", "InvalidMaps", "InvalidClaim",
                "InvalidOperation")
WITH_VALUE = {"InvalidNumber": "given", "UnknownName": "wanted", "TooMany": "most", "Refused": "reason",
              "ParseError": "at"}


class Errors(unittest.TestCase):

    def test_base(self):
        self.assertEqual(errors.HardError.__bases__, (ValueError,))
        self.assertEqual(str(errors.HardError("what went wrong")), "what went wrong")

    def test_directly_derived(self):
        for name in WITH_MESSAGE + tuple(WITH_VALUE):
            self.assertEqual(getattr(errors, name).__bases__, (errors.HardError,), name)

    def test_no_others(self):
        found = {name for name, value in vars(errors).items() if inspect.isclass(value)}
        self.assertEqual(found, {"HardError", *WITH_MESSAGE, *WITH_VALUE})

    def test_those_with_a_message(self):
        for name in WITH_MESSAGE:
            error = getattr(errors, name)("a message")
            self.assertEqual(str(error), "a message", name)
            with self.assertRaises(ValueError):
                raise error

    def test_those_with_a_value_keep_it(self):
        for name, kept in WITH_VALUE.items():
            for value in (None, True, 7, -10 ** 50, "text", (1, (2,)), [1], {1: 2}, errors.HardError("e")):
                error = getattr(errors, name)(value)
                self.assertIs(getattr(error, kept), value, name)
                self.assertIsInstance(str(error), str)

    def test_values_are_taken_alone(self):
        for name in WITH_VALUE:
            with self.assertRaises(TypeError):
                getattr(errors, name)()
            with self.assertRaises(TypeError):
                getattr(errors, name)(1, 2)

    def test_caught_apart(self):
        for name in WITH_MESSAGE + tuple(WITH_VALUE):
            others = tuple(getattr(errors, other) for other in WITH_MESSAGE + tuple(WITH_VALUE) if other != name)
            self.assertNotIsInstance(getattr(errors, name)(0), others)


if __name__ == "__main__":
    unittest.main()
