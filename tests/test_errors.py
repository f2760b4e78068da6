"""The refusals: where each class stands, and its field."""

import unittest

from worldfind import errors

PLAIN = [
    "NoSize", "NoPair", "NoName", "NoCode", "Crowded",
    "NoRenaming", "Unlike", "NoRow", "NoStand",
]
FIELDS = {
    "NoText": "row",
    "TooBig": "bits",
    "NoWorld": "papers",
    "NoNumber": "number",
    "Broken": "number",
    "Kept": "world",
}
VALUES = [None, 0, 7, -1, "text", True, [], [("broken", 0)], (2, (1,), (9,)), {"a": 1}]


def refusals():
    return [getattr(errors, name) for name in PLAIN + list(FIELDS)]


class Standing(unittest.TestCase):
    def test_any_refusal_is_a_value_error(self):
        self.assertEqual(errors.WorldError.__bases__, (ValueError,))

    def test_each_stands_under_world_error(self):
        for one in refusals():
            self.assertTrue(issubclass(one, errors.WorldError), one)
            self.assertTrue(issubclass(one, ValueError), one)

    def test_none_stands_under_another(self):
        for one in refusals():
            for other in refusals():
                if one is not other:
                    self.assertFalse(issubclass(one, other), (one, other))

    def test_each_bears_its_own_name(self):
        self.assertEqual([one.__name__ for one in refusals()], PLAIN + list(FIELDS))

    def test_plain_ones_are_raised_and_taken(self):
        for name in PLAIN:
            one = getattr(errors, name)
            for taken in (one, errors.WorldError, ValueError):
                with self.assertRaises(taken):
                    raise one()


class Fields(unittest.TestCase):
    def test_field_is_there_as_given(self):
        for name, field in FIELDS.items():
            for value in VALUES:
                error = getattr(errors, name)(value)
                self.assertIs(getattr(error, field), value, name)

    def test_field_may_be_told_by_its_name(self):
        for name, field in FIELDS.items():
            error = getattr(errors, name)(**{field: 5})
            self.assertEqual(getattr(error, field), 5, name)

    def test_field_is_there_where_it_is_taken(self):
        for name, field in FIELDS.items():
            with self.assertRaises(errors.WorldError) as taken:
                raise getattr(errors, name)(3)
            self.assertEqual(getattr(taken.exception, field), 3, name)

    def test_each_object_has_its_own(self):
        for name, field in FIELDS.items():
            first = getattr(errors, name)(1)
            second = getattr(errors, name)(2)
            self.assertEqual((getattr(first, field), getattr(second, field)), (1, 2), name)


if __name__ == "__main__":
    unittest.main()
