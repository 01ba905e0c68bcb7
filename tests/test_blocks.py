import random
import unittest

from criermoot.blocks import deed_blocks, pieces, value_of, value_text
from criermoot.errors import BadValue, TextError
from tests import plainvalues

DIGITS = "123456789012345678901234567890"
TEXTS = (
    (0, "0"), (1, "1"), (-1, "-1"), (10, "10"), (-907, "-907"), (int(DIGITS), DIGITS), (-int(DIGITS), "-" + DIGITS),
    ("", "''"), ("a", "'a'"), ("'", "''''"), ("''", "''''''"), ("it's", "'it''s'"), ("'a'", "'''a'''"), (" ", "' '"),
    ("N", "'N'"), ("1", "'1'"), ("(a b)", "'(a b)'"), ("a" * 100, "'" + "a" * 100 + "'"), (plainvalues.LETTERS, None),
    (None, "N"), ((), "()"), ((None,), "(N)"), ((1,), "(1)"), (((),), "(())"), (((), ()), "(() ())"),
    ((1, "it's", None, ()), "(1 'it''s' N ())"), (((1, (2, ("x",))), -3), "((1 (2 ('x'))) -3)"),
    (("", ("", ""), ""), "('' ('' '') '')"),
)
WRONG = (
    ("", 0), (" ", 0), ("-", 1), ("-0", 1), ("-a", 1), ("--1", 1), ("- 1", 1), ("00", 1), ("01", 1), ("0 ", 1), ("1a", 1),
    ("1 ", 1), (" 1", 0), ("1-", 1), ("+1", 0), ("n", 0), ("a", 0), ("NN", 1), ("N ", 1), ("N1", 1), (")", 0), ("\"a\"", 0),
    (DIGITS + "1", 30), ("-" + DIGITS + "1", 31), (DIGITS + "12", 30), ("'", 1), ("'a", 2), ("'''", 3), ("'a''", 4),
    ("'a'b", 3), ("'a' ", 3), ("'a'''b", 5), ("''a", 2), ("''''a", 4), ("'a''b", 5), ("(", 1), ("( ", 1), ("( )", 1), ("( 1)", 1),
    ("(1", 2), ("(1 ", 3), ("(1 )", 3), ("(1  2)", 3), ("(1 2", 4), ("(1,2)", 2), ("(1(2))", 2), ("(1'a')", 2), ("('a'N)", 4),
    ("('a''b", 6), ("(-", 2), ("(-0)", 2), ("(00)", 2), ("(1 02)", 4), ("())", 2), ("() ", 2), ("()()", 2), ("()1", 2),
    ("(1))", 3), ("((1)", 4), ("((1) ", 5), ("((1) 2", 6), ("(N N)N", 5), ("(" + DIGITS + "1)", 31), ("(1 (2 3)4)", 8),
    ("'a\tb'", 2), ("('a" + chr(37) + "')", 3), ("1" + chr(37), 1),
)


class ValueTest(unittest.TestCase):
    def test_texts(self):
        for value, text in TEXTS:
            if text is not None:
                self.assertEqual(value_text(value), text)
            told = value_of(value_text(value))
            self.assertEqual(told, value)
            self.assertIs(type(told), type(value))

    def test_wrong_texts(self):
        for text, at in WRONG:
            self.assertEqual(plainvalues.wrong_place(text), at, text)
            with self.assertRaises(BadValue) as caught:
                value_of(text)
            self.assertEqual(caught.exception.at, at, text)
            self.assertIsInstance(caught.exception, TextError)

    def test_written_and_read_again(self):
        chance = random.Random(41)
        for _ in range(300):
            value = plainvalues.random_value(chance)
            self.assertEqual(value_text(value), plainvalues.text_of(value))
            self.assertEqual(value_of(value_text(value)), value)

    def test_spoilt_texts(self):
        chance = random.Random(42)
        for _ in range(1500):
            text = value_text(plainvalues.random_value(chance, depth=2))[:30]
            at = chance.randrange(len(text) + 1)
            text = text[:at] + chance.choice(("", "'", " ", "(", ")", "0", "1", "-", "N")) + text[at + chance.randrange(2):]
            at = plainvalues.wrong_place(text)
            try:
                value_of(text)
                told = None
            except BadValue as error:
                told = error.at
            self.assertEqual(told, at, text)

    def test_depth(self):
        value = 1
        for _ in range(20):
            value = (value, ())
        self.assertEqual(value_of(value_text(value)), value)
        text = "(" * 21 + ")" * 21
        self.assertEqual(value_text(value_of(text)), text)
        with self.assertRaises(BadValue) as caught:
            value_of("(" * 21 + ")" * 20)
        self.assertEqual(caught.exception.at, 41)

    def test_long_texts(self):
        value = tuple(range(1000)) + ("x" * 1000,)
        self.assertEqual(value_of(value_text(value)), value)


class PiecesTest(unittest.TestCase):
    def test_lengths(self):
        for length, told in ((1, (1,)), (2, (2,)), (39, (39,)), (40, (40,)), (41, (40, 1)), (79, (40, 39)), (80, (40, 40)),
                             (81, (40, 40, 1)), (120, (40, 40, 40))):
            value = "x" * (length - 2) if length > 1 else None
            self.assertEqual(len(value_text(value)), length)
            self.assertEqual(tuple(len(piece) for piece in pieces(value)), told)
            self.assertEqual("".join(pieces(value)), value_text(value))
            self.assertIs(type(pieces(value)), tuple)
        self.assertEqual(pieces(()), ("()",))
        self.assertEqual(pieces("a" * 39), ("'" + "a" * 39, "'"))

    def test_blocks(self):
        self.assertEqual(deed_blocks(3, 5, None), (("row", 3, 5, 0, "N"), ("end", 3, 5, 1)))
        self.assertEqual(deed_blocks(1, 0, "a" * 39),
                         (("row", 1, 0, 0, "'" + "a" * 39), ("row", 1, 0, 1, "'"), ("end", 1, 0, 2)))
        for length in (1, 37, 38, 39, 78, 79, 200):
            self.assertEqual(deed_blocks(2, 7, "b" * length), plainvalues.blocks(2, 7, "b" * length))
        self.assertIs(type(deed_blocks(1, 0, ())), tuple)
