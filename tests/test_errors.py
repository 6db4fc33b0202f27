"""[Z1]: the errors."""

import copy
import inspect
import unittest

from daywatches import errors
from tests.values import ANY_VALUES

FIELDS = {
    "BadBatch": None,
    "BadLot": "error",
    "BadText": "place",
    "Busy": None,
    "NoDay": "given",
    "NoParts": "given",
    "NothingToUndo": None,
    "NoTurn": "given",
    "NoVersion": "given",
    "NoWatch": "given",
    "Open": "day",
    "Rejected": "index",
    "TooLong": "turn",
    "TooMany": "limit",
    "TooManyEdits": None,
}


class ErrorsTest(unittest.TestCase):
    def test_watch_error_is_a_value_error(self):
        self.assertEqual(errors.WatchError.__bases__, (ValueError,))

    def test_all_others_stand_directly_under_watch_error(self):
        for name in FIELDS:
            with self.subTest(name):
                self.assertEqual(getattr(errors, name).__bases__, (errors.WatchError,))

    def test_there_are_no_further_errors(self):
        names = [name for name, _ in inspect.getmembers(errors, inspect.isclass)]
        self.assertEqual(sorted(names), sorted([*FIELDS, "WatchError"]))

    def test_fields_of_errors_made_by_place_and_by_name(self):
        for name, field in FIELDS.items():
            if field is None:
                continue
            made = getattr(errors, name)
            for value in ANY_VALUES:
                with self.subTest(name=name, value=str(value)[:60]):
                    before = copy.deepcopy(value)
                    for error in (made(value), made(**{field: value})):
                        self.assertEqual(list(vars(error)), [field])
                        self.assertIs(getattr(error, field), value)
                    self.assertEqual(value, before)

    def test_errors_without_fields(self):
        for name, field in FIELDS.items():
            if field is not None:
                continue
            with self.subTest(name):
                self.assertEqual(vars(getattr(errors, name)()), {})

    def test_errors_with_fields_need_their_argument(self):
        for name, field in FIELDS.items():
            if field is None:
                continue
            with self.subTest(name):
                made = getattr(errors, name)
                with self.assertRaises(TypeError):
                    made()
                with self.assertRaises(TypeError):
                    made(1, 2)

    def test_errors_are_raised_and_caught_by_their_classes(self):
        for name, field in FIELDS.items():
            made = getattr(errors, name)
            given = () if field is None else (7,)
            for caught in (made, errors.WatchError, ValueError):
                with self.subTest(name=name, caught=caught.__name__):
                    with self.assertRaises(caught):
                        raise made(*given)

    def test_errors_do_not_catch_each_other(self):
        for name in FIELDS:
            for other in FIELDS:
                if other != name:
                    self.assertFalse(issubclass(getattr(errors, name), getattr(errors, other)))


if __name__ == "__main__":
    unittest.main()
