"""Promise 12: the errors."""

import unittest

from keptform import errors

WITH_AT = (errors.BadValue, errors.BadText, errors.BadLevels)
WITH_NAME = (errors.NoMaster, errors.TakenName)


class ErrorsTest(unittest.TestCase):
    def test_base_class(self):
        self.assertEqual(errors.FormError.__bases__, (Exception,))

    def test_direct_subclasses(self):
        for kind in WITH_AT + WITH_NAME + (errors.TooMany,):
            with self.subTest(kind=kind.__name__):
                self.assertEqual(kind.__bases__, (errors.FormError,))

    def test_at_is_kept(self):
        for kind in WITH_AT:
            for at in (0, 1, 37):
                with self.subTest(kind=kind.__name__, at=at):
                    self.assertEqual(kind(at).at, at)
                    self.assertEqual(kind(at=at).at, at)

    def test_name_is_kept(self):
        for kind in WITH_NAME:
            for name in ("one", "", None, True, 5, ["a", ("b",)]):
                with self.subTest(kind=kind.__name__, name=name):
                    self.assertIs(kind(name).name, name)
                    self.assertIs(kind(name=name).name, name)

    def test_exactly_one_argument(self):
        for kind in WITH_AT + WITH_NAME:
            with self.subTest(kind=kind.__name__):
                self.assertRaises(TypeError, kind)
                self.assertRaises(TypeError, kind, 1, 2)

    def test_too_many_has_no_argument(self):
        with self.assertRaises(errors.FormError):
            raise errors.TooMany()
        self.assertRaises(TypeError, errors.TooMany, 1)

    def test_all_are_caught_as_form_errors(self):
        for kind in WITH_AT + WITH_NAME:
            with self.subTest(kind=kind.__name__):
                with self.assertRaises(errors.FormError):
                    raise kind(0)


if __name__ == "__main__":
    unittest.main()
