"""0.3: the error classes."""

import copy
import pickle
import unittest

from quitsways import errors
from tests.strangers import strangers

FIELDS = {
    "BadEvening": "part", "NoAmount": None, "NotEven": None, "NoRow": None, "NoPair": "place", "NoWay": None,
    "NoDrawing": None, "TooMany": "most", "NoNumber": None, "NoSettlement": None, "NoPrices": None,
    "NoFraction": None, "NoPerson": None, "NoWeb": None, "NotSettled": None, "NoOrder": None, "Quits": None,
    "NothingDone": None, "NoNames": None, "NoName": "name", "Alike": None, "NoLosers": None, "NoRing": None,
    "NoWish": None, "NoEvenings": None, "NoRule": None, "BadText": "line", "NoLine": None,
}


class TestErrors(unittest.TestCase):
    def test_just_these_classes(self):
        found = {name for name, thing in vars(errors).items() if isinstance(thing, type)}
        self.assertEqual(found, set(FIELDS) | {"QuitsError"})

    def test_bases(self):
        self.assertEqual(errors.QuitsError.__bases__, (ValueError,))
        for name in FIELDS:
            self.assertEqual(getattr(errors, name).__bases__, (errors.QuitsError,), name)

    def test_defined_there(self):
        for name in list(FIELDS) + ["QuitsError"]:
            self.assertEqual(getattr(errors, name).__module__, "quitsways.errors")
            self.assertEqual(getattr(errors, name).__name__, name)

    def test_fields_whatever_is_passed(self):
        for name, field in FIELDS.items():
            made = getattr(errors, name)
            if field is None:
                self.assertEqual(vars(made()), {}, name)
                with self.assertRaises(TypeError):
                    made(1)
                continue
            for thing in strangers():
                self.assertEqual(list(vars(made(thing))), [field], name)
                self.assertIs(getattr(made(thing), field), thing, name)
            for wrong in ((), (1, 2)):
                with self.assertRaises(TypeError):
                    made(*wrong)

    def test_raised_and_caught(self):
        for name, field in FIELDS.items():
            made = getattr(errors, name)
            with self.assertRaises(ValueError) as caught:
                raise made() if field is None else made(14)
            self.assertIs(type(caught.exception), made)

    def test_copied(self):
        for name, field in FIELDS.items():
            error = getattr(errors, name)() if field is None else getattr(errors, name)("two")
            for other in (copy.copy(error), pickle.loads(pickle.dumps(error))):
                self.assertIs(type(other), type(error))
                self.assertEqual(vars(other), vars(error))


if __name__ == "__main__":
    unittest.main()
