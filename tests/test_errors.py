import inspect
import unittest

from scanmisses import errors
from scanmisses.errors import InvalidText, ScanError, TooLarge, TooManyMisses

WITH_STRING = [
    "InvalidProgram", "InvalidScan", "InvalidList", "InvalidAddress", "InvalidSize", "InvalidNumber", "InvalidIndex",
    "InvalidProfile", "InvalidSummary", "InvalidSizes", "InvalidScans", "InvalidPrograms", "InvalidPoints",
    "InvalidInterval", "InvalidOperation", "Nothing", "InvalidCommand",
]
WITH_ARGUMENT = ["InvalidText", "TooLarge", "TooManyMisses"]


class ErrorsTest(unittest.TestCase):
    def test_base(self):
        self.assertEqual(ScanError.__bases__, (ValueError,))
        with self.assertRaises(ValueError):
            raise ScanError("why")
        self.assertEqual(str(ScanError("why")), "why")

    def test_all_are_there_and_no_others(self):
        names = [name for name, value in vars(errors).items() if inspect.isclass(value)]
        self.assertEqual(sorted(names), sorted(["ScanError", *WITH_STRING, *WITH_ARGUMENT]))
        for name in names:
            self.assertEqual(getattr(errors, name).__module__, "scanmisses.errors")

    def test_each_derives_directly(self):
        for name in WITH_STRING + WITH_ARGUMENT:
            self.assertEqual(getattr(errors, name).__bases__, (ScanError,), name)

    def test_made_with_a_string(self):
        for name in WITH_STRING:
            error = getattr(errors, name)("the reason")
            self.assertEqual(str(error), "the reason")
            self.check_classes(error, name)

    def check_classes(self, error, name):
        self.assertIsInstance(error, ValueError)
        for other in ["ScanError", *WITH_STRING, *WITH_ARGUMENT]:
            self.assertEqual(isinstance(error, getattr(errors, other)), other in ("ScanError", name), (name, other))

    def test_made_with_the_listed_argument(self):
        for value in (0, 2, None, 10 ** 5000):
            if value != 10 ** 5000:
                self.assertEqual(InvalidText(value).index, value)
                self.assertEqual(TooLarge(value).limit, value)
            self.assertEqual(TooManyMisses(value).total, value)
        self.check_classes(InvalidText(3), "InvalidText")
        self.check_classes(TooLarge(3), "TooLarge")
        self.check_classes(TooManyMisses(3), "TooManyMisses")

    def test_can_be_shown(self):
        for error in (InvalidText(3), InvalidText(None), TooLarge(10000), TooManyMisses(10 ** 5000)):
            self.assertNotEqual(str(error), "")

    def test_caught_by_name(self):
        for name in WITH_STRING:
            with self.assertRaises(getattr(errors, name)):
                raise getattr(errors, name)("why")
        with self.assertRaises(InvalidText) as caught:
            raise InvalidText(7)
        self.assertEqual(caught.exception.index, 7)
