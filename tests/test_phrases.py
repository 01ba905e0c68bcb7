import unittest

from criermoot.errors import BadWord, MootError
from criermoot.phrases import read_word, stuffed, unstuffed, write_word

KEY = "k" * 60
WORDS = (
    ("open hill mill", ("open", "hill", "mill")), ("open a b2345678", ("open", "a", "b2345678")),
    ("offer 5@mill 1 12", ("offer", "5@mill", 1, 12)), ("offer x 0 0", ("offer", "x", 0, 0)),
    ("offer x 999 9999999", ("offer", "x", 999, 9999999)), (f"offer {KEY} 10 100", ("offer", KEY, 10, 100)),
    ("bring s:5@mill:0:0", ("bring", "s:5@mill:0:0")), ("bring .", ("bring", ".")), (f"bring {KEY}", ("bring", KEY)),
    ("body 5@mill", ("body", "5@mill")), ("body body", ("body", "body")), (".", (".",)), ("clear x", ("clear", "x")),
    ("close", ("close",)), ("ready", ("ready",)), ("want x", ("want", "x")), ("have (~\"'#", ("have", "(~\"'#")),
    ("old x", ("old", "x")), ("took 1", ("took", "1")), ("spoilt x", ("spoilt", "x")), ("cleared x", ("cleared", "x")),
    ("closed", ("closed",)),
)
WITH_KEY = ("bring", "body", "clear", "want", "have", "old", "took", "spoilt", "cleared")
WRONG = (
    "", " ", "..", "...", ". ", " .", ".x", "x", "hello there", "Open a b", "OPEN a b", "open", "open a", "open a b c",
    "open A b", "open a B", "open a ", "open  a b", "open a  b", " open a b", "open a b ", "open 1a b", "open a b23456789",
    "open a@b c", "open a a.b", "open a -", "offer", "offer x", "offer x 1", "offer x 1 2 3", "offer x 1000 1", "offer x 1 10000000",
    "offer x 01 1", "offer x 1 01", "offer x 00 1", "offer x 1 00", "offer x -1 1", "offer x 1 -1", "offer x +1 1", "offer x a 1",
    "offer x 1 a", "offer  1 1", "offer x  1 1", "offer x 1  1", "offer x 1 ", "offer x 1 1 ", " offer x 1 1", f"offer {KEY}k 1 1",
    "offer x 1.0 1", "offer 1 1", "close ", " close", "close x", "closed x", "closed ", "ready x", "ready ", " ready", "readyx",
    "clears x", "wants x", "take x", "notice x", "letter x", "close.", "open\ta\tb", "offer x 1\n1", "bring",
)


class WordsTest(unittest.TestCase):
    def test_right_words(self):
        self.assertEqual(len({parts[0] for _, parts in WORDS}), 15)
        for word, parts in WORDS:
            self.assertEqual(read_word(word), parts)
            self.assertIs(type(read_word(word)), tuple)
            self.assertTrue(all(type(one) is type(other) for one, other in zip(read_word(word), parts)))
            self.assertEqual(write_word(parts), word)

    def wrong(self, word):
        with self.assertRaises(BadWord) as caught:
            read_word(word)
        self.assertEqual(caught.exception.word, word)
        self.assertIsInstance(caught.exception, MootError)

    def test_wrong_words(self):
        for word in WRONG:
            self.wrong(word)

    def test_keys(self):
        for name in WITH_KEY:
            for key in ("x", "5@mill", ".", "k" * 59, KEY, "c:5@mill:all@mill:ann@hill", name, "(')"):
                self.assertEqual(read_word(f"{name} {key}"), (name, key))
                self.assertEqual(write_word((name, key)), f"{name} {key}")
            for word in (name, f"{name} ", f"{name}  ", f"{name}  x", f" {name} x", f"{name} x ", f"{name} x x", f"{name}x",
                         f"{name} {KEY}k", f"{name.upper()} x", f"{name} x\ty", f"{name} {chr(37)}"):
                self.wrong(word)

    def test_numbers(self):
        for number in (0, 1, 9, 10, 99, 100, 998, 999):
            self.assertEqual(read_word(f"offer x {number} 1"), ("offer", "x", number, 1))
        for number in (0, 1, 999, 1000, 999999, 1000000, 9999998, 9999999):
            self.assertEqual(read_word(f"offer x 1 {number}"), ("offer", "x", 1, number))
        for number in ("1000", "9999", "00", "000", "007", "0000"):
            self.wrong(f"offer x {number} 1")
        for number in ("10000000", "99999999", "00", "0000007", "00000000", "01"):
            self.wrong(f"offer x 1 {number}")


class RowsTest(unittest.TestCase):
    def test_rows(self):
        for row, word in (("", ""), ("a", "a"), (".", ".."), ("..", "..."), (".a", "..a"), (" .", " ."), ("a.", "a."),
                          ("...", "...."), ("close", "close")):
            self.assertEqual(stuffed(row), word)
            self.assertEqual(unstuffed(word), row)

    def test_no_row_is_the_end_of_a_body(self):
        for row in ("", ".", "..", ". ", "x", ".x"):
            self.assertNotEqual(stuffed(row), ".")
            self.assertEqual(unstuffed(stuffed(row)), row)
