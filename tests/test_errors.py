"""[3]: the refusals."""

import unittest

from pagerooms import errors
from pagerooms.errors import PageError

NAMES = ("NoRule", "NoRoom", "NoPage", "NoWord", "NoWindow", "NoTurn", "NoColour", "NoTask")
KINDS = [getattr(errors, name) for name in NAMES]


class TestErrors(unittest.TestCase):
    def test_page_error_stands_straight_under_value_error(self):
        self.assertEqual(PageError.__bases__, (ValueError,))

    def test_each_stands_straight_under_page_error(self):
        for kind in KINDS:
            self.assertEqual(kind.__bases__, (PageError,), kind)

    def test_none_stands_under_another(self):
        for kind in KINDS:
            under = [other for other in KINDS if issubclass(kind, other)]
            self.assertEqual(under, [kind])

    def test_names(self):
        for name, kind in zip(NAMES, KINDS):
            self.assertEqual(kind.__name__, name)

    def test_value_by_place_and_by_name(self):
        values = [0, -1, 10 ** 60, None, "", "far", (1, 2), -10 ** 5000]
        for kind in KINDS:
            for value in values:
                self.assertIs(kind(value).what, value)
                self.assertIs(kind(what=value).what, value)

    def test_made_with_one_value(self):
        for kind in KINDS:
            with self.assertRaises(TypeError):
                kind()
            with self.assertRaises(TypeError):
                kind(1, 2)

    def test_raised_and_caught(self):
        for kind in KINDS:
            for caught in (kind, PageError, ValueError):
                with self.assertRaises(caught) as seen:
                    raise kind(7)
                self.assertEqual(seen.exception.what, 7)

    def test_message_of_any_value(self):
        for kind in KINDS:
            for value in (3, None, "far", -10 ** 5000):
                self.assertIsInstance(str(kind(value)), str)
                self.assertIsInstance(repr(kind(what=value)), str)

    def test_page_error_can_be_raised(self):
        with self.assertRaises(PageError) as seen:
            raise PageError("refused")
        for kind in KINDS:
            self.assertNotIsInstance(seen.exception, kind)


if __name__ == "__main__":
    unittest.main()
