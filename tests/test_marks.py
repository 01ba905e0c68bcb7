import random
import unittest

from criermoot.marks import mark_of
from tests.samples import CHARACTERS


def plain_mark(rows):
    """The mark, from all codes in one row."""
    codes = [code for row in rows for code in [*map(ord, row), 10]]
    return (7 * 131 ** len(codes) + sum(code * 131 ** k for k, code in enumerate(reversed(codes)))) % 1000003


class MarksTest(unittest.TestCase):
    def test_told_marks(self):
        self.assertEqual(mark_of(()), 7)
        self.assertEqual(mark_of(("",)), 927)
        self.assertEqual(mark_of(("", "")), 121447)
        self.assertEqual(mark_of(("a",)), (131 * (131 * 7 + 97) + 10) % 1000003)

    def test_plain_marks(self):
        chance = random.Random(6)
        for _ in range(200):
            rows = tuple("".join(chance.choices(CHARACTERS, k=chance.randrange(40))) for _ in range(chance.randrange(6)))
            self.assertEqual(mark_of(rows), plain_mark(rows))

    def test_long_rows(self):
        rows = ("x" * 2000, "~" * 2000, " " * 2000)
        self.assertEqual(mark_of(rows), plain_mark(rows))
        self.assertLess(mark_of(rows), 1000003)

    def test_rows_are_told_apart(self):
        self.assertNotEqual(mark_of(("ab",)), mark_of(("a", "b")))
        self.assertNotEqual(mark_of(()), mark_of(("",)))

    def test_one_change(self):
        chance = random.Random(7)
        rows = ("Id: 5@mill", "x" * 2000, "", "Come soon.")
        mark = mark_of(rows)
        for number, place in ((0, 0), (0, 9), (1, 0), (1, 999), (1, 1999), (3, 4)):
            for sign in chance.sample(CHARACTERS, 40):
                row = rows[number]
                other = row[:place] + sign + row[place + 1:]
                if other != row:
                    self.assertNotEqual(mark_of(rows[:number] + (other,) + rows[number + 1:]), mark)

    def test_exchange(self):
        for row in ("ab", "Come soon.", "x" * 1000 + " ~" + "x" * 998):
            for place in range(len(row) - 1):
                if row[place] != row[place + 1]:
                    other = row[:place] + row[place + 1] + row[place] + row[place + 2:]
                    self.assertNotEqual(mark_of(("a", row, "b")), mark_of(("a", other, "b")))
