"""[4], [11]: the errors."""

import unittest

from tests import support
from wellstrewn import errors
from wellstrewn.errors import StrewError

FIELDS = {
    "Wrong": "place", "NoText": "line", "TooMany": "most", "NotGood": None, "NoNumber": "many", "NoDeed": "index",
    "NoFit": None, "NoName": "name", "Twice": "name", "NoCommand": None,
}
CLASSES = [(getattr(errors, name), field) for name, field in FIELDS.items()]


class Errors(unittest.TestCase):

    def test_they_are_just_these(self):
        found = [name for name, value in vars(errors).items() if isinstance(value, type)]
        self.assertEqual(sorted(found), sorted(["StrewError", *FIELDS]))

    def test_strew_error_lies_under_value_error_and_is_made_without_arguments(self):
        self.assertEqual(StrewError.__bases__, (ValueError,))
        self.assertIsInstance(StrewError(), StrewError)

    def test_each_lies_under_strew_error_and_under_no_other_one(self):
        for one, _ in CLASSES:
            self.assertTrue(issubclass(one, StrewError))
            for other, _ in CLASSES:
                self.assertEqual(issubclass(one, other), one is other)

    def test_those_without_arguments_are_made_so(self):
        for made, field in CLASSES:
            if field is None:
                with self.assertRaises(StrewError) as caught:
                    raise made()
                self.assertEqual(vars(caught.exception), {})

    def test_each_keeps_the_very_object(self):
        for made, field in CLASSES:
            for value in support.STRANGE + ([1, [2]], {"a": []}):
                if field is not None:
                    error = made(value)
                    self.assertIs(getattr(error, field), value)
                    self.assertEqual(list(vars(error)), [field])

    def test_what_is_changed_behind_is_changed_in_it(self):
        for made, field in CLASSES:
            if field is not None:
                row, table = [1], {"a": [1]}
                errors_made = [made(row), made(table)]
                row.append(2)
                table["a"].append(2)
                self.assertEqual([getattr(error, field) for error in errors_made], [[1, 2], {"a": [1, 2]}])

    def test_each_is_caught_by_its_own_name_alone(self):
        for made, field in CLASSES:
            arguments = [] if field is None else [7]
            for other, _ in CLASSES:
                if other is not made:
                    with self.assertRaises(made):
                        try:
                            raise made(*arguments)
                        except other:
                            self.fail("caught by another one")


if __name__ == "__main__":
    unittest.main()
