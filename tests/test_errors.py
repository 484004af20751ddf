"""The errors of the interface."""

import unittest

from patternways import errors

NAMES = ["BadSize", "BadPattern", "BadText", "BadTable", "BadNumber", "BadIndex", "NoWord", "BadRules", "TooLarge",
         "BadEdit", "BadKind", "BadPieces", "BadRow", "Unequal", "BadPlace", "BadStand", "TooMany", "NothingDone",
         "BadLines"]


class Errors(unittest.TestCase):
    def test_all_are_direct_subclasses(self):
        self.assertEqual(errors.WayError.__bases__, (ValueError,))
        for name in NAMES:
            self.assertEqual(getattr(errors, name).__bases__, (errors.WayError,), name)
        self.assertEqual(sorted(found.__name__ for found in errors.WayError.__subclasses__()), sorted(NAMES))

    def test_attributes_are_set(self):
        self.assertEqual(errors.BadRules(3).index, 3)
        self.assertIsNone(errors.BadRules(None).index)
        self.assertEqual(errors.BadPieces(0).index, 0)
        self.assertEqual(errors.BadLines(7).row, 7)
        self.assertIsNone(errors.BadLines(None).row)


if __name__ == "__main__":
    unittest.main()
