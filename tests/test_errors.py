"""The refusals (the interface's bothbooks/errors.py, and point 2)."""

import unittest

from bothbooks import errors
from bothbooks.errors import BookError, NoBook, NoDeed, NoText, Wrong

PLAIN = ["NoPerson", "NoHouse", "NoPair", "NotHere", "Gone", "Fallen", "Standing", "NoLetter"]
WITH_FIELD = {"Wrong": "now", "NoText": "row", "NoDeed": "at", "NoBook": "at"}


class TestClasses(unittest.TestCase):
    def test_the_base_stands_right_under_value_error(self):
        self.assertEqual(BookError.__bases__, (ValueError,))

    def test_each_stands_right_under_the_base_alone(self):
        for name in PLAIN + list(WITH_FIELD):
            with self.subTest(name=name):
                self.assertEqual(getattr(errors, name).__bases__, (BookError,))

    def test_none_stands_under_another_one(self):
        for name in PLAIN + list(WITH_FIELD):
            for other in PLAIN + list(WITH_FIELD):
                if name != other:
                    with self.subTest(name=name, other=other):
                        self.assertFalse(issubclass(getattr(errors, name), getattr(errors, other)))

    def test_each_class_bears_its_name(self):
        for name in ["BookError"] + PLAIN + list(WITH_FIELD):
            self.assertEqual(getattr(errors, name).__name__, name)

    def test_each_is_taken_as_the_base_and_as_a_value_error(self):
        for name in PLAIN:
            for taken in (BookError, ValueError):
                with self.assertRaises(taken):
                    raise getattr(errors, name)("words")


class TestFields(unittest.TestCase):
    def test_now(self):
        for now in ("nothing", "asked", "follows", "refused", "barred", "gone"):
            self.assertEqual(Wrong(now).now, now)

    def test_row_and_at(self):
        for number in (0, 1, 7, 299):
            self.assertEqual(NoText(number).row, number)
            self.assertEqual(NoDeed(number).at, number)
            self.assertEqual(NoBook(number).at, number)

    def test_a_field_is_still_there_where_it_is_taken(self):
        for name, field in WITH_FIELD.items():
            with self.assertRaises(BookError) as taken:
                raise getattr(errors, name)(5)
            self.assertEqual(getattr(taken.exception, field), 5)

    def test_a_field_is_each_objects_own(self):
        one, other = NoText(1), NoText(2)
        self.assertEqual((one.row, other.row), (1, 2))

    def test_no_object_is_made_without_its_field(self):
        for name in WITH_FIELD:
            with self.assertRaises(TypeError):
                getattr(errors, name)()

    def test_they_bear_no_value_but_where_told(self):
        for name in PLAIN:
            self.assertEqual(vars(getattr(errors, name)("words")), {})
        for name, field in WITH_FIELD.items():
            self.assertEqual(vars(getattr(errors, name)(5)), {field: 5})

    def test_no_class_has_a_field(self):
        for name in PLAIN + list(WITH_FIELD):
            for field in ("now", "row", "at"):
                self.assertFalse(hasattr(getattr(errors, name), field))


if __name__ == "__main__":
    unittest.main()
