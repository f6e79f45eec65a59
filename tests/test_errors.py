"""The refusals, as the interface tells them."""

import unittest

from goodenough.errors import EnoughError, NoCover, NoLengths, NoRoom, NoShare, NoText, TooMany

SIX = (NoShare, NoLengths, TooMany, NoCover, NoRoom, NoText)


class ErrorsTest(unittest.TestCase):

    def test_enough_error_stands_under_value_error(self):
        self.assertTrue(issubclass(EnoughError, ValueError))
        self.assertIsNot(EnoughError, ValueError)

    def test_each_stands_under_enough_error(self):
        for one in SIX:
            self.assertTrue(issubclass(one, EnoughError), one)
            self.assertIsNot(one, EnoughError)

    def test_none_stands_under_another(self):
        for one in SIX:
            for other in SIX:
                if one is not other:
                    self.assertFalse(issubclass(one, other), (one, other))

    def test_thing_of_no_cover_and_no_room(self):
        for kind in (NoCover, NoRoom):
            for number in (0, 1, 79):
                error = kind(number)
                self.assertEqual(error.thing, number)
                self.assertIs(type(error.thing), int)

    def test_line_of_no_text(self):
        for number in (0, 1, 20000):
            error = NoText(number)
            self.assertEqual(error.line, number)
            self.assertIs(type(error.line), int)

    def test_each_object_has_its_own_value(self):
        first = NoCover(1)
        second = NoCover(2)
        self.assertEqual((first.thing, second.thing), (1, 2))

    def test_taken_as_any_refusal(self):
        for error in (NoShare(), NoLengths(), TooMany(), NoCover(3), NoRoom(4), NoText(5)):
            with self.assertRaises(EnoughError):
                raise error


if __name__ == "__main__":
    unittest.main()
