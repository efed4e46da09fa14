"""The classes of signsteps/errors.py, as the interface lists them."""

import unittest

from signsteps import errors

WITHOUT_FIELDS = ("NoCount", "NoSum", "NoGrade", "NoProduct", "NoEven", "NoHalves", "NoBoards", "NoCross",
                  "NoKind", "NoWord", "NoUndo", "NoLine")
FIELDS = {"NoSquare": "place", "NoFull": "place", "NoVector": "place", "NoMirror": "place", "NoStep": "step",
          "NoPartner": "other", "NoTable": "row", "NoKeep": "steps", "BadStep": "at", "NoText": "at",
          "NoName": "name"}


class ErrorsTest(unittest.TestCase):
    def test_step_error_is_a_value_error(self):
        self.assertEqual(errors.StepError.__bases__, (ValueError,))

    def test_each_stands_straight_under_step_error(self):
        for name in WITHOUT_FIELDS + tuple(FIELDS):
            with self.subTest(name):
                self.assertEqual(getattr(errors, name).__bases__, (errors.StepError,))

    def test_none_is_another_one(self):
        found = [getattr(errors, name) for name in WITHOUT_FIELDS + tuple(FIELDS)]
        self.assertEqual(len(set(found)), 23)
        for one in found:
            for other in found:
                self.assertEqual(issubclass(one, other), one is other)

    def test_no_other_class_is_there(self):
        found = {name for name, thing in vars(errors).items() if isinstance(thing, type)}
        self.assertEqual(found, {"StepError"} | set(WITHOUT_FIELDS) | set(FIELDS))

    def test_fields(self):
        for name, field in FIELDS.items():
            for worth in (0, -1, 10 ** 40, (0, 1), ((), (1, 2)), "ab"):
                with self.subTest(name, worth=worth):
                    made = getattr(errors, name)(worth)
                    self.assertEqual(vars(made), {field: worth})
                    self.assertTrue(str(made))

    def test_without_fields(self):
        for name in WITHOUT_FIELDS:
            with self.subTest(name):
                made = getattr(errors, name)("why it is so")
                self.assertEqual(vars(made), {})
                self.assertEqual(str(made), "why it is so")
                with self.assertRaises(errors.StepError):
                    raise made


if __name__ == "__main__":
    unittest.main()
