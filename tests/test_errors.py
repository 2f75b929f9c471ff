import unittest

from ownshelf import errors
from ownshelf.errors import Changed, ShelfError

REFUSALS = (
    "NoBalance", "TooMany", "NoPlace", "NoThing", "NoSum", "NoMore",
    "Changed", "NoRow", "NoName", "NoNumber", "NoWay",
)


class Refusals(unittest.TestCase):
    def test_shelf_error_is_a_value_error(self):
        self.assertEqual(ShelfError.__bases__, (ValueError,))

    def test_each_refusal_stands_straight_under_shelf_error(self):
        for name in REFUSALS:
            with self.subTest(name=name):
                self.assertEqual(getattr(errors, name).__bases__, (ShelfError,))

    def test_each_refusal_is_taken_by_its_own_name_and_by_no_other_one(self):
        classes = [getattr(errors, name) for name in REFUSALS]
        for one in classes:
            for other in classes:
                with self.subTest(one=one.__name__, other=other.__name__):
                    self.assertEqual(issubclass(one, other), one is other)

    def test_each_refusal_can_be_raised_with_words(self):
        for name in REFUSALS:
            if name != "Changed":
                with self.subTest(name=name), self.assertRaises(ValueError):
                    raise getattr(errors, name)("words")

    def test_changed_keeps_its_deed(self):
        for deed in (("put", 3), ("turned", 0, 2), ("cut", 0), ("laid", 0)):
            with self.subTest(deed=deed):
                with self.assertRaises(Changed) as caught:
                    raise Changed(deed)
                self.assertEqual(caught.exception.deed, deed)
                self.assertIsInstance(caught.exception.deed, tuple)


if __name__ == "__main__":
    unittest.main()
