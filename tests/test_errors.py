"""The errors: their names, their base class and where they keep their objects."""

import inspect
import unittest

from slackcache import errors
from slackcache.errors import CacheError
from tests.helpers import Hostile

LISTED = {
    "InvalidKeys": ["given"],
    "InvalidName": ["given"],
    "InvalidValue": ["given"],
    "InvalidNeed": ["given"],
    "InvalidAllowance": ["given"],
    "InvalidHistory": ["index"],
    "InvalidDeed": ["given"],
    "UnknownNode": ["node"],
    "UnknownKey": ["word"],
    "UnknownQuestion": ["question"],
    "NoCopy": ["word"],
    "NoMessage": ["sender", "receiver"],
    "NameTaken": ["node"],
    "NotReady": ["node"],
    "HasChildren": ["node"],
    "NotCrashed": ["node"],
    "Busy": ["node"],
    "TooLow": ["least"],
    "LimitExceeded": ["limit"],
    "InvalidOrder": ["given"],
    "InvalidCut": ["given"],
    "InvalidMoment": ["given"],
    "InvalidOperand": ["given"],
    "InvalidToken": ["given"],
    "Overtaken": ["question"],
    "NoAnswer": ["question"],
    "InvalidLog": ["given"],
    "NothingWaits": ["word"],
    "Unsettled": ["node"],
    "InvalidCondition": ["given"],
    "InvalidMost": ["given"],
    "InvalidTree": ["given"],
    "InvalidTarget": ["given"],
    "InvalidSequence": ["given"],
    "InvalidScript": ["line"],
    "InvalidUser": ["given"],
    "NetTaken": ["net"],
    "UnknownNet": ["net"],
    "NothingToUndo": ["net"],
    "NotYours": ["user"],
    "InvalidText": ["given"],
    "InvalidCommand": ["given"],
}


class ErrorsTest(unittest.TestCase):
    def test_all_that_are_listed_are_there_and_no_others(self):
        found = [name for name, kind in inspect.getmembers(errors, inspect.isclass) if kind is not CacheError]
        self.assertEqual(found, sorted(LISTED))

    def test_each_stands_directly_below_the_base_class(self):
        self.assertEqual(CacheError.__bases__, (Exception,))
        for name in LISTED:
            self.assertEqual(getattr(errors, name).__bases__, (CacheError,), name)
            self.assertEqual(getattr(errors, name).__module__, "slackcache.errors")

    def test_each_keeps_any_objects_under_the_names_of_its_arguments(self):
        for name, fields in LISTED.items():
            kind = getattr(errors, name)
            for make in (Hostile, list, dict, lambda: None, lambda: 5, lambda: "price", object):
                objects = [make() for _ in fields]
                for error in (kind(*objects), kind(**dict(zip(fields, objects)))):
                    self.assertEqual(sorted(vars(error)), sorted(fields), name)
                    for field, given in zip(fields, objects):
                        self.assertIs(getattr(error, field), given)

    def test_base_class_catches_all(self):
        for name, fields in LISTED.items():
            with self.assertRaises(CacheError):
                raise getattr(errors, name)(*fields)


if __name__ == "__main__":
    unittest.main()
