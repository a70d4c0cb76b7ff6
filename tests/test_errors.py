"""The refusals, as the interface lists them."""

import unittest

from bridgefind import errors

NAMES = ("NoTree", "NoWay", "NoStand", "Twice", "Missing", "NoRoom",
         "NoKnot", "NoKey", "NoOrder", "NoRow", "NoText")


class Errors(unittest.TestCase):
    def test_bridge_error_stands_straight_under_value_error(self):
        self.assertEqual(errors.BridgeError.__bases__, (ValueError,))

    def test_each_stands_straight_under_bridge_error(self):
        for name in NAMES:
            with self.subTest(name=name):
                self.assertEqual(getattr(errors, name).__bases__, (errors.BridgeError,))

    def test_none_stands_under_another_one(self):
        for one in NAMES:
            for other in NAMES:
                with self.subTest(one=one, other=other):
                    under = issubclass(getattr(errors, one), getattr(errors, other))
                    self.assertEqual(under, one == other)

    def test_each_is_raised_and_taken_as_a_refusal(self):
        for name in NAMES:
            refusal = getattr(errors, name)
            for taken in (refusal, errors.BridgeError, ValueError):
                with self.subTest(name=name, taken=taken):
                    with self.assertRaises(taken):
                        raise refusal(0)

    def test_no_text_has_its_line(self):
        for line in (0, 1, 7, 40):
            with self.subTest(line=line):
                self.assertEqual(errors.NoText(line).line, line)

    def test_no_text_keeps_its_line_when_raised(self):
        with self.assertRaises(errors.NoText) as caught:
            raise errors.NoText(3)
        self.assertEqual(caught.exception.line, 3)

    def test_each_no_text_has_a_line_of_its_own(self):
        first = errors.NoText(2)
        second = errors.NoText(5)
        self.assertEqual((first.line, second.line), (2, 5))
        self.assertFalse(hasattr(errors.NoText, "line"))


if __name__ == "__main__":
    unittest.main()
