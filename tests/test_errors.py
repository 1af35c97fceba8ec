"""0.3: the error classes."""

import unittest

from falsedays import errors

FIELDS = {"BadOffice": "part", "TooMany": "most", "BadText": "line", "NoName": "name", "NoClerk": "place"}
PLAIN = ("NoDay NoNumber NoSteps NoLot NoFact NoBoard NoNote NotSure NoSlips NoWorths NoColours NoClaims NotChained "
         "OtherSizes NoStep NoMark NothingDone NoLine NoWeb NoTree NoShape NoStanding NoMove NoPrices NotWhole").split()


class ErrorsTest(unittest.TestCase):
    def test_bases(self):
        self.assertEqual(errors.FalseError.__bases__, (ValueError,))
        for name in list(FIELDS) + PLAIN:
            self.assertEqual(getattr(errors, name).__bases__, (errors.FalseError,), name)
            self.assertEqual(getattr(errors, name).__module__, "falsedays.errors")

    def test_all_are_here(self):
        here = [name for name in vars(errors) if isinstance(getattr(errors, name), type)]
        self.assertEqual(sorted(here), sorted(["FalseError"] + list(FIELDS) + PLAIN))

    def test_fields(self):
        for name, field in FIELDS.items():
            for worth in (60, "sizes", None, True, [], object()):
                error = getattr(errors, name)(worth)
                self.assertEqual(list(vars(error)), [field])
                self.assertIs(getattr(error, field), worth)
            self.assertRaises(TypeError, getattr(errors, name))
            self.assertRaises(TypeError, getattr(errors, name), 1, 2)

    def test_no_fields(self):
        for name in PLAIN:
            self.assertEqual(vars(getattr(errors, name)()), {})
            self.assertRaises(TypeError, getattr(errors, name), 1)

    def test_caught_as_false_errors(self):
        for name in PLAIN:
            with self.assertRaises(errors.FalseError):
                raise getattr(errors, name)()


if __name__ == "__main__":
    unittest.main()
