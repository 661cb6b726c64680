import unittest

from halvesmeet import errors
from support import odd_values

PLAIN_ONES = ("InvalidCircle", "InvalidDeed", "InvalidState", "InvalidDisk", "InvalidBlock", "InvalidRecord",
              "InvalidFacts", "InvalidLetter", "InvalidHouse", "InvalidEvent", "InvalidWorld", "InvalidPicture",
              "InvalidHistory", "InvalidOperation")
KEEPING_ONES = (("ParseError", errors.HouseError, "spot"), ("InvalidNumber", IndexError, "given"),
                ("UnknownName", KeyError, "wanted"), ("TooMany", OverflowError, "limit"),
                ("Refused", ArithmeticError, "reason"))


class ErrorsTest(unittest.TestCase):
    def test_direct_bases(self):
        self.assertEqual(errors.HouseError.__bases__, (ValueError,))
        for name in PLAIN_ONES:
            self.assertEqual(getattr(errors, name).__bases__, (errors.HouseError,), name)
        for name, base, _ in KEEPING_ONES:
            self.assertEqual(getattr(errors, name).__bases__, (base,), name)

    def test_none_is_derived_from_another_one(self):
        kinds = [getattr(errors, name) for name in PLAIN_ONES]
        kinds += [getattr(errors, name) for name, _, _ in KEEPING_ONES]
        for one in kinds:
            for other in kinds:
                self.assertEqual(issubclass(one, other), one is other)

    def test_there_are_no_other_errors(self):
        names = [name for name, value in vars(errors).items() if isinstance(value, type)]
        self.assertEqual(sorted(names), sorted(["HouseError", *PLAIN_ONES, *(row[0] for row in KEEPING_ONES)]))

    def test_what_is_kept(self):
        for name, _, attribute in KEEPING_ONES:
            for value in odd_values():
                self.assertIs(getattr(getattr(errors, name)(value), attribute), value)

    def test_messages(self):
        for name in ("HouseError",) + PLAIN_ONES:
            self.assertEqual(str(getattr(errors, name)("no such thing")), "no such thing")

    def test_they_can_be_raised_and_caught(self):
        for name, base, attribute in KEEPING_ONES:
            with self.assertRaises(base) as caught:
                raise getattr(errors, name)(("word", 1))
            self.assertEqual(getattr(caught.exception, attribute), ("word", 1))


if __name__ == "__main__":
    unittest.main()
