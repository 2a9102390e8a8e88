import unittest

from slidehall import errors


class TestErrors(unittest.TestCase):
    def test_what_they_stand_under(self):
        self.assertEqual(errors.HallError.__bases__, (ValueError,))
        for name in ("Barred", "TooMany", "NoRoom", "NoStand", "BadRow"):
            with self.subTest(name):
                self.assertEqual(getattr(errors, name).__bases__, (errors.HallError,))

    def test_fields_of_barred(self):
        error = errors.Barred(3, 7)
        self.assertEqual((error.push, error.step), (3, 7))

    def test_field_of_bad_row(self):
        self.assertEqual(errors.BadRow(4).row, 4)

    def test_made_with_words(self):
        for made in (errors.HallError, errors.TooMany, errors.NoRoom, errors.NoStand):
            with self.subTest(made.__name__):
                self.assertEqual(str(made("some words")), "some words")

    def test_taken_as_value_error(self):
        for error in (errors.Barred(0, 0), errors.BadRow(0), errors.NoStand("none")):
            with self.assertRaises(ValueError):
                raise error


if __name__ == "__main__":
    unittest.main()
