"""The interface of stage 1: which error class stands under which, and the fields of each."""

import unittest

from farjump import errors

FIELDS = {
    "BadParts": (),
    "BadRow": ("part", "row"),
    "NoEnd": ("part", "row"),
    "Twice": ("name", "parts"),
    "Lacking": ("name", "part", "row"),
    "WrongAim": ("name", "part", "row"),
    "NoStart": ("name",),
    "NoName": ("name",),
    "NoCells": ("place",),
    "NoText": ("line",),
    "BadBase": (),
    "TooFar": (),
    "NoLayout": (),
    "NoClasses": (),
    "NoLine": (),
}
VALUES = {"part": "fees", "row": 3, "name": "start", "parts": ["a", "b"], "place": 25, "line": 7}


class ErrorClasses(unittest.TestCase):
    def test_part_error_stands_straight_under_value_error(self):
        self.assertEqual(errors.PartError.__bases__, (ValueError,))

    def test_all_others_stand_straight_under_part_error(self):
        for name in FIELDS:
            with self.subTest(name):
                self.assertEqual(getattr(errors, name).__bases__, (errors.PartError,))

    def test_no_other_class_is_there(self):
        classes = [name for name, thing in vars(errors).items() if isinstance(thing, type)]
        self.assertEqual(sorted(classes), sorted(list(FIELDS) + ["PartError"]))

    def test_fields_are_set_when_an_error_is_made(self):
        for name, fields in FIELDS.items():
            with self.subTest(name):
                error = getattr(errors, name)(*[VALUES[field] for field in fields])
                self.assertEqual(vars(error), {field: VALUES[field] for field in fields})

    def test_the_parts_of_twice_are_a_list_of_its_own(self):
        parts = ["a", "b"]
        error = errors.Twice("start", parts)
        parts.append("c")
        self.assertEqual(error.parts, ["a", "b"])


if __name__ == "__main__":
    unittest.main()
