import unittest

from criermoot import errors


class ErrorsTest(unittest.TestCase):
    def test_classes_above(self):
        above = {
            "MootError": ValueError, "TextError": errors.MootError, "LimitError": errors.MootError,
            "BadBook": errors.MootError, "BadWord": errors.MootError, "Fallen": errors.MootError,
            "BadText": errors.TextError, "BadPattern": errors.TextError, "BadRule": errors.TextError,
            "BadValue": errors.TextError, "BadMarks": errors.TextError,
            "TooLarge": errors.LimitError, "TooMany": errors.LimitError,
        }
        for name, base in above.items():
            self.assertEqual(getattr(errors, name).__bases__, (base,), name)

    def test_attributes(self):
        self.assertEqual(errors.BadBook("sites").part, "sites")
        self.assertEqual(errors.BadBook(part="sites").part, "sites")
        self.assertEqual(errors.BadWord("clos").word, "clos")
        self.assertEqual(errors.BadWord(word="clos").word, "clos")
        for name in ("BadText", "BadPattern", "BadValue", "BadMarks"):
            self.assertEqual(getattr(errors, name)(3).at, 3)
            self.assertEqual(getattr(errors, name)(at=3).at, 3)
        wrong = errors.BadRule(2, 7)
        self.assertEqual((wrong.row, wrong.at), (2, 7))
        wrong = errors.BadRule(row=2, at=7)
        self.assertEqual((wrong.row, wrong.at), (2, 7))
        for name in ("TooLarge", "TooMany"):
            self.assertEqual(getattr(errors, name)("spots").part, "spots")
            self.assertEqual(getattr(errors, name)(part="spots").part, "spots")
        self.assertIsInstance(errors.Fallen(), errors.MootError)
