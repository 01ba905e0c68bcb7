import random
import unittest

from criermoot.headrows import fold, unfold


def plain_fold(text, width):
    """Folding as the document tells it."""
    rows = []
    while len(text) > width:
        blanks = [place for place in range(1, len(text)) if text[place] == " "]
        near = [place for place in blanks if place <= width]
        if not blanks:
            break
        place = max(near) if near else min(blanks)
        rows.append(text[:place])
        text = text[place:]
    return tuple(rows + [text])


class FoldTest(unittest.TestCase):
    def test_short(self):
        for text in ("", " ", "a", "a" * 20, " " * 20, "ab " * 6 + "ab"):
            self.assertEqual(fold(text, 20), (text,))
        self.assertEqual(fold("a " * 39, 78), ("a " * 39,))

    def test_blank_around_the_width(self):
        self.assertEqual(fold("a" * 19 + " " + "b" * 9, 20), ("a" * 19, " " + "b" * 9))
        self.assertEqual(fold("a" * 20 + " " + "b" * 9, 20), ("a" * 20, " " + "b" * 9))
        self.assertEqual(fold("a" * 21 + " " + "b" * 9, 20), ("a" * 21, " " + "b" * 9))
        self.assertEqual(fold("a" * 50 + " " + "b" * 9, 20), ("a" * 50, " " + "b" * 9))
        self.assertEqual(fold("a" * 20 + " ", 20), ("a" * 20, " "))
        self.assertEqual(fold("a" * 78 + " b", 78), ("a" * 78, " b"))
        self.assertEqual(fold("a" * 77 + " b", 78), ("a" * 77, " b"))

    def test_nearest_blanks(self):
        self.assertEqual(fold("aa bb cc " + "d" * 30 + " e f", 20), ("aa bb cc", " " + "d" * 30, " e f"))
        self.assertEqual(fold("a" * 30 + " b " + "c" * 30, 20), ("a" * 30, " b", " " + "c" * 30))

    def test_no_place(self):
        self.assertEqual(fold("a" * 100, 20), ("a" * 100,))
        self.assertEqual(fold(" " + "a" * 100, 20), (" " + "a" * 100,))
        self.assertEqual(fold("a" * 2000, 78), ("a" * 2000,))

    def test_blanks(self):
        self.assertEqual(fold(" " * 21, 20), (" " * 20, " "))
        self.assertEqual(fold(" " * 100, 20), (" " * 20,) * 5)
        self.assertEqual(fold("   " + "a" * 30 + "  b", 20), ("  ", " " + "a" * 30, "  b"))

    def test_as_told(self):
        chance = random.Random(5)
        for _ in range(600):
            text = "".join(chance.choices("a bcd" if chance.random() < 0.5 else "abcdefghijklmnopqrs ",
                                          k=chance.randrange(130)))
            for width in (20, 21, 33, 60, 77, 78):
                rows = fold(text, width)
                self.assertEqual(rows, plain_fold(text, width))
                self.assertEqual(unfold(rows), text)
                self.assertTrue(all(row.startswith(" ") for row in rows[1:]))
                self.assertIs(type(rows), tuple)

    def test_long(self):
        for text in ("ab cde " * 285 + "abcde", " " * 2000, "a" * 1999 + " ", "a" * 1000 + " " * 1000):
            self.assertEqual(len(text), 2000)
            for width in (20, 50, 78):
                self.assertEqual(fold(text, width), plain_fold(text, width))

    def test_unfold(self):
        self.assertEqual(unfold(()), "")
        self.assertEqual(unfold(("a",)), "a")
        self.assertEqual(unfold(("Subject: one two", " three", "", " ")), "Subject: one two three ")
