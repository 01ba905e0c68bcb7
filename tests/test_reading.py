import random
import unittest

from criermoot.errors import BadText
from criermoot.notices import is_notice, read_notice, write_notice
from tests.samples import CHARACTERS, HEADS, TEXT, marked, notice, wrong_row

BEHIND = ("", "Part: text plain", "Come soon.")


class LooseTest(unittest.TestCase):
    def test_heads_folded_elsewhere(self):
        heads = ("Id:", " 5@mill", "From:", " ann@mill", "Date:", " 12", "Boards:", " town.fish", " town.sale",
                 "Subject:", " Fresh", " today", "Refs:", " 1@a", " 2@a", "Strikes:", " 3@a", "Sealed: a@b", " c@d")
        told = read_notice(marked(heads, BEHIND))
        self.assertEqual(told, notice(
            refs=(("a", 1), ("a", 2)), kind=("strike", ("a", 3)), seals=("a@b", "c@d"),
            body=("text", "plain", ("Come soon.",))))
        self.assertNotEqual(write_notice(told, 20), marked(heads, BEHIND))
        self.assertEqual(read_notice(write_notice(told, 20)), told)

    def test_mark_folded(self):
        rows = marked(HEADS, BEHIND)
        number = rows[5].split(" ")[1]
        self.assertEqual(read_notice(rows[:5] + ("Mark:", " " + number) + rows[6:]), read_notice(rows))
        self.assertEqual(wrong_row(rows[:5] + ("Mark:", " ", " " + number) + rows[6:]), 5)

    def test_subjects(self):
        for rows in (("Subject: ",), ("Subject:", " "), ("Subject: a  b ",), ("Subject:", "  a", "  ", " b", " "),
                     ("Subject: " + "x" * 120,), ("Subject: " + " " * 60, " " * 60)):
            told = read_notice(marked(HEADS[:4] + rows, BEHIND))
            self.assertEqual(told[5], "".join(rows)[9:])
        for rows in (("Subject: " + "x" * 121,), ("Subject: " + " " * 60, " " * 61), ("Subject:",),
                     ("Subject:", "x"), ("subject: x",), ("Subject x",)):
            self.assertEqual(wrong_row(marked(HEADS[:4] + rows, BEHIND)), 4, rows)

    def test_marks_are_of_the_rows_that_stand_there(self):
        folded = HEADS[:4] + ("Subject:", " Fresh today")
        rows = marked(folded, BEHIND)
        self.assertIsNone(wrong_row(rows))
        mark = int(rows[6].split(" ")[1])
        self.assertEqual(wrong_row(marked(HEADS, BEHIND, mark)), 5)

    def test_bodies(self):
        behind = ("", "Part: parts 123456", "--123456", "Part: text quoted", "=43ome=", "=20so=", "on.", "",
                  "--123456", "Part: data runs", "1x05", "2x05 1x05", "--123456", "Part: data pairs", "00", "0102",
                  "--123456", "Part: data quads", "0000", "00", "--123456--")
        body = ("parts", (("text", "quoted", ("Come soon.", "")), ("data", "runs", (5,) * 4),
                          ("data", "pairs", (0, 1, 2)), ("data", "quads", (0, 0, 0, 0))))
        told = read_notice(marked(HEADS, behind))
        self.assertEqual(told, notice(boards=("town.fish",), body=body))
        self.assertIn("Part: parts 0", write_notice(told, 20))


class HeadsTest(unittest.TestCase):
    def check(self, number, *rows):
        """Whether each head is wrong in place of the one with this number."""
        for row in rows:
            heads = HEADS[:number] + (row,) + HEADS[number + 1:]
            self.assertEqual(wrong_row(marked(heads, BEHIND)), number, row)

    def test_none(self):
        self.assertEqual(wrong_row(()), 0)
        self.assertEqual(wrong_row(("",)), 0)
        self.assertEqual(wrong_row((" ",)), 0)
        self.assertEqual(wrong_row((" Id: 5@mill",) + marked(HEADS, BEHIND)[1:]), 0)
        self.assertEqual(wrong_row(("", " Id: 5@mill") + HEADS), 0)

    def test_values(self):
        self.check(0, "Id: ", "Id: 5", "Id: 05@mill", "Id: 0@mill", "Id: 1000000@mill", "Id: 5@Mill", "Id: 5@mill ",
                   "Id:  5@mill", "Id:5@mill", "id: 5@mill", "Id 5@mill", "Id: 5@mill 6@mill", "X: 5@mill", "",
                   "Ident: 5@mill")
        self.check(1, "From: ", "From: ann", "From: ann@hill", "From: Ann@mill", "From: ann@mill ", "From:ann@mill",
                   "from: ann@mill", "From: ann@mill bob@mill", "By: ann@mill")
        self.check(2, "Date: ", "Date: x", "Date: 012", "Date: -1", "Date: +1", "Date: 10000000", "Date: 12 ",
                   "Date:  12", "Date: 1 2", "Date:12", "Date: 00", "Date: 00000000")
        self.check(3, "Boards: ", "Boards: A", "Boards: a..b", "Boards: a ", "Boards:  a", "Boards: a  b",
                   "Boards: a b c d", "Boards: a a", "Boards: a b a", "Boards: a,b", "Board: a", "Boards: " + "a" * 601)
        for row in ("Date: 0", "Date: 9999999"):
            self.assertIsNone(wrong_row(marked(HEADS[:2] + (row,) + HEADS[3:], BEHIND)))
        for row in ("Boards: a b c", "Boards: " + "a" * 600):
            self.assertIsNone(wrong_row(marked(HEADS[:3] + (row,) + HEADS[4:], BEHIND)))

    def test_optional_values(self):
        right = ("Refs: 1@a", "Refs: " + " ".join(f"{k}@a" for k in range(1, 7)), "Refs: 2@a 1@a", "Strikes: 6@mill",
                 "Strikes: 5@hill", "Replaces: 999999@a", "Sealed: a@b",
                 "Sealed: " + " ".join(f"a{k}@b" for k in range(8)))
        for row in right:
            self.assertIsNone(wrong_row(marked(HEADS + (row,), BEHIND)), row)
        wrong = ("Refs: ", "Refs: 5@mill", "Refs: 1@a 5@mill", "Refs: 1@a 1@a", "Refs: 0@a", "Refs: 1@a ",
                 "Refs: 1@a  2@a", "Refs: 1@A", "Refs: " + " ".join(f"{k}@a" for k in range(1, 8)), "Strikes: ",
                 "Strikes: 5@mill", "Strikes: 1@a 2@a", "Strikes: 01@a", "Replaces: 5@mill", "Replaces: ",
                 "Replaces: x", "Sealed: ", "Sealed: a", "Sealed: a@b a@b", "Sealed: a@b ", "Sealed: A@b",
                 "Sealed: " + " ".join(f"a{k}@b" for k in range(9)), "Strike: 1@a", "Kind: post", "Refs:", "Sealed:")
        for row in wrong:
            self.assertEqual(wrong_row(marked(HEADS + (row,), BEHIND)), 5, row)

    def test_missing_heads(self):
        for number in range(5):
            heads = HEADS[:number] + HEADS[number + 1:]
            self.assertEqual(wrong_row(marked(heads, BEHIND)), number)
            self.assertEqual(wrong_row(HEADS[:number]), number)
            self.assertEqual(wrong_row(HEADS[:number] + ("",)), number)
        self.assertEqual(wrong_row(HEADS + BEHIND), 5)
        self.assertEqual(wrong_row(HEADS), 5)
        self.assertEqual(wrong_row(HEADS[:4] + ("Subject:", " a", " b")), 7)

    def test_order(self):
        more = ("Refs: 1@a", "Strikes: 1@a", "Sealed: a@b")
        self.assertIsNone(wrong_row(marked(HEADS + more, BEHIND)))
        heads = HEADS + more
        for number in range(len(heads) - 1):
            swapped = heads[:number] + (heads[number + 1], heads[number]) + heads[number + 2:]
            told = number if number < 5 else number + 1
            self.assertEqual(wrong_row(marked(swapped, BEHIND)), told)
        self.assertEqual(wrong_row(marked(HEADS + ("Strikes: 1@a", "Replaces: 2@a"), BEHIND)), 6)
        self.assertEqual(wrong_row(marked(HEADS + ("Replaces: 1@a", "Strikes: 2@a"), BEHIND)), 6)
        self.assertEqual(wrong_row(marked(HEADS + ("Strikes: 1@a", "Strikes: 2@a"), BEHIND)), 6)
        self.assertEqual(wrong_row(marked(HEADS + ("Subject: again",), BEHIND)), 5)
        self.assertEqual(wrong_row(marked(HEADS + ("Sealed: a@b", "Refs: 1@a"), BEHIND)), 6)

    def test_mark_values(self):
        for row in ("Mark: ", "Mark: x", "Mark: 00", "Mark: 01", "Mark: -1", "Mark: 10000000", "Mark: 1 ", "Mark:1",
                    "mark: 1", "Mark: 1 2"):
            self.assertEqual(wrong_row(HEADS + (row,) + BEHIND), 5, row)
            # A mark that is no number is told ahead of what is behind it.
            self.assertEqual(wrong_row(HEADS + (row, "x")), 5, row)
        for row in ("Mark: 9999999", "Mark: 0", "Mark: 1000003"):
            self.assertEqual(wrong_row(HEADS + (row,) + BEHIND), 5, row)
            self.assertEqual(wrong_row(HEADS + (row, "x")), 6, row)

    def test_number_of_the_first_row_of_a_head(self):
        heads = ("Id:", " 5@mill", "From: ann@mill", "Date: 12", "Boards: a", " a", "Subject: x")
        self.assertEqual(wrong_row(marked(heads, BEHIND)), 4)
        heads = ("Id:", " 5@mill", "From: ann@mill", "Date: 12", "Boards: a", " b", "Subject: x")
        rows = marked(heads, BEHIND, 0)
        self.assertEqual(wrong_row(rows), 7)
        self.assertEqual(wrong_row(rows[:7] + ("Mark:", " 0") + rows[8:]), 7)

    def test_empty_row(self):
        rows = HEADS + ("Mark: 1",)
        self.assertEqual(wrong_row(rows), 6)
        self.assertEqual(wrong_row(rows + ("x",)), 6)
        self.assertEqual(wrong_row(rows + ("Part: text plain",)), 6)
        self.assertEqual(wrong_row(rows + ("Id: 5@mill", "")), 6)
        self.assertEqual(wrong_row(rows + (" ", "")), 5)
        self.assertEqual(wrong_row(rows + ("",)), 7)
        self.assertEqual(wrong_row(rows + ("", "")), 7)
        self.assertEqual(wrong_row(rows + ("", "x")), 7)


class BodiesTest(unittest.TestCase):
    def check(self, at, *behind):
        """Whether this row behind the empty one is the first that is wrong, also beside a wrong mark."""
        rows = marked(HEADS, ("",) + behind)
        self.assertEqual(wrong_row(rows), 7 + at)
        self.assertEqual(wrong_row(rows[:5] + ("Mark: 1234567",) + rows[6:]), 7 + at)

    def test_body_rows(self):
        self.check(0, "Part: text none")
        self.check(1, "Part: data pairs", "x")
        self.check(2, "Part: data pairs", "00", "0")
        self.check(2, "Part: text quoted", "a=")
        self.check(1, "Part: parts 0", "--0--")
        self.check(2, "Part: parts 0", "--0", "--0--")
        self.check(3, "Part: parts 0", "--0", "Part: text plain")
        self.check(4, "Part: parts 0", "--0", "Part: text plain", "--0--", "x")
        self.check(21, "Part: text plain", *["x"] * 21)
        self.check(1, "Part: text plain", "x" * 79)
        self.check(1, "Part: data runs", "99x00 22x00")
        self.check(9, "Part: parts 0", *["--0", "Part: text plain"] * 5, "--0--")

    def test_heads_ahead_of_bodies(self):
        heads = HEADS[:2] + ("Date: x",) + HEADS[3:]
        self.assertEqual(wrong_row(marked(heads, ("", "Part: none"), 7)), 2)
        self.assertEqual(wrong_row(marked(HEADS, ("x", "Part: none"), 7)), 6)

    def test_wrong_mark_at_last(self):
        rows = write_notice(notice())
        for number in range(len(rows)):
            if rows[number]:
                changed = rows[:number] + (rows[number][:-1] + "b",) + rows[number + 1:]
                self.assertIsNotNone(wrong_row(changed))
        self.assertEqual(wrong_row(rows[:8] + ("Come soon,",) + rows[9:]), 5)
        self.assertEqual(wrong_row(rows + ("more",)), 5)
        self.assertEqual(wrong_row(rows[:-1]), 5)


class AnyTextTest(unittest.TestCase):
    def test_changed_texts(self):
        """A text with some change tells a notice, or the first row that is wrong."""
        chance = random.Random(88)
        body = ("parts", (TEXT, ("parts", (("text", "quoted", ("a = b ", "x" * 70)), ("data", "quads", (1, 2, 3, 4)))),
                          ("data", "runs", (7,) * 100), ("data", "pairs", (1, 2))))
        whole = notice(refs=(("a", 1), ("b", 2)), kind=("strike", ("c", 3)), seals=("a@b",), body=body)
        text = list(write_notice(whole, 20))
        for _ in range(1500):
            rows = list(text)
            for _ in range(chance.randrange(1, 3)):
                self.change(rows, chance)
            self.look_at(tuple(rows))

    def change(self, rows, chance):
        number = chance.randrange(len(rows))
        row = rows[number]
        place = chance.randrange(len(row) + 1)
        way = chance.randrange(5)
        if way == 0:
            rows.insert(number, chance.choice(rows))
        elif way == 1 and len(rows) > 1:
            del rows[number]
        elif way == 2:
            rows[number] = row[:place] + chance.choice(CHARACTERS) + row[place:]
        elif way == 3:
            rows[number] = row[:place] + row[place + 1:]
        else:
            rows[number:number + 1] = [row[:place], row[place:]]

    def look_at(self, rows):
        at = wrong_row(rows)
        if at is None:
            told = read_notice(rows)
            self.assertTrue(is_notice(told))
            self.assertEqual(read_notice(write_notice(told, 33)), told)
            return
        self.assertTrue(0 <= at <= len(rows))
        marks = [number for number, row in enumerate(rows) if row.startswith("Mark")]
        # Without the wrong row and what is behind it, nothing but the mark is wrong ahead of it.
        shorter = wrong_row(rows[:at])
        self.assertTrue(shorter is None or shorter >= at or shorter in marks, (rows, at, shorter))

    def test_raises_bad_text(self):
        with self.assertRaises(BadText):
            read_notice(("x",))
