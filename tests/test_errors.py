"""The refusals' classes: how they are made, their fields, what they stand under."""

import inspect
import unittest

from mapround import errors

ONE_FIELD = {
    "NoEnd": "end",
    "Twice": "end",
    "Lone": "end",
    "NotThere": "end",
    "Taken": "road",
    "BadRow": "row",
}
WITHOUT_FIELDS = ["TooMany", "NoPlace", "NotOnePiece", "TooBig", "NoDeed", "BadLine"]
REFUSALS = sorted(ONE_FIELD) + ["Crossed"] + WITHOUT_FIELDS


class ErrorsTest(unittest.TestCase):

    def test_one_field(self):
        for name, field in ONE_FIELD.items():
            for value in (0, 7, -7, 10 ** 60):
                with self.subTest(name=name, value=value):
                    error = getattr(errors, name)(value)
                    self.assertEqual(vars(error), {field: value})

    def test_two_fields(self):
        error = errors.Crossed(3, 8)
        self.assertEqual(vars(error), {"one": 3, "two": 8})

    def test_without_fields(self):
        for name in WITHOUT_FIELDS:
            with self.subTest(name=name):
                error = getattr(errors, name)()
                self.assertIsInstance(error, errors.MapError)
                self.assertEqual(vars(error), {})

    def test_arguments_bear_the_names_of_the_fields(self):
        for name, field in ONE_FIELD.items():
            with self.subTest(name=name):
                self.assertEqual(getattr(getattr(errors, name)(**{field: 5}), field), 5)
        error = errors.Crossed(two=8, one=3)
        self.assertEqual((error.one, error.two), (3, 8))

    def test_words_can_be_asked_of_a_number_of_any_size(self):
        for name in ONE_FIELD:
            with self.subTest(name=name):
                self.assertIsInstance(str(getattr(errors, name)(10 ** 6000)), str)
        self.assertIsInstance(str(errors.Crossed(10 ** 6000, 10 ** 6000)), str)

    def test_all_stand_under_map_error(self):
        self.assertEqual(errors.MapError.__bases__, (ValueError,))
        for name in REFUSALS:
            with self.subTest(name=name):
                self.assertTrue(issubclass(getattr(errors, name), errors.MapError))
                self.assertTrue(issubclass(getattr(errors, name), ValueError))

    def test_none_stands_under_another(self):
        for name in REFUSALS:
            for other in REFUSALS:
                if name != other:
                    with self.subTest(name=name, other=other):
                        self.assertFalse(issubclass(getattr(errors, name), getattr(errors, other)))

    def test_no_class_is_one_of_the_others_by_another_name(self):
        classes = [kind for _, kind in inspect.getmembers(errors, inspect.isclass)]
        self.assertEqual(sorted(kind.__name__ for kind in classes), sorted(REFUSALS + ["MapError"]))

    def test_raised_and_taken_by_each_class_above(self):
        for name in ONE_FIELD:
            for above in (getattr(errors, name), errors.MapError, ValueError):
                with self.subTest(name=name, above=above):
                    with self.assertRaises(above):
                        raise getattr(errors, name)(1)


if __name__ == "__main__":
    unittest.main()
