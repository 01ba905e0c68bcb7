import unittest

from criermoot.names import id_of, id_text, is_address, is_board, is_name, split_address, words_of
from tests.samples import CHARACTERS


class NamesTest(unittest.TestCase):
    def check(self, asked, right, wrong):
        for text in right:
            self.assertIs(asked(text), True, text)
        for text in wrong:
            self.assertIs(asked(text), False, text)

    def test_names(self):
        right = ("a", "z", "mill", "a1", "z0z9", "abcdefgh", "a2345678")
        wrong = ("", "abcdefghi", "a23456789", "Mill", "mIll", "milL", "1mill", "0", " mill", "mill ", "mi ll",
                 "mi.ll", "mi@ll", "mi-ll", "_a", "a_", "mill\n", "a" * 700)
        self.check(is_name, right, wrong)

    def test_names_by_each_sign(self):
        letters = "abcdefghijklmnopqrstuvwxyz"
        for sign in CHARACTERS:
            self.assertIs(is_name(sign), sign in letters, sign)
            self.assertIs(is_name("a" + sign), sign in letters + "0123456789", sign)
            self.assertIs(is_name("a" + sign + "b"), sign in letters + "0123456789", sign)

    def test_addresses(self):
        right = ("ann@mill", "a@b", "abcdefgh@abcdefgh", "a1@b2")
        wrong = ("", "@", "ann", "ann@", "@mill", "ann@@mill", "ann@mill@", "@ann@mill", "ann@mill@hill", "Ann@mill",
                 "ann@Mill", "1nn@mill", "ann@1ill", "abcdefghi@mill", "ann@abcdefghi", "ann @mill", "ann@ mill",
                 " ann@mill", "ann@mill ", "ann.mill", "an.n@mill", "ann@mi.ll", "ann@" + "b" * 690)
        self.check(is_address, right, wrong)

    def test_boards(self):
        right = ("a", "town", "town.fish", "a1.b2.c3", "averylongword.withdigits012345", "a" * 600, "a." * 299 + "bc",
                 "b" + ".a" * 299 + "c")
        wrong = ("", ".", "a.", ".a", "a..b", "Town", "town.Fish", "town.1fish", "1town", "town fish", "town,fish",
                 "town.fi-sh", " town", "town ", "town*", "a" * 601, "a." * 300 + "b", "b" + ".a" * 300, "@", "a@b")
        self.check(is_board, right, wrong)

    def test_board_lengths(self):
        self.assertEqual(len("a." * 299 + "bc"), 600)
        self.assertEqual(len("b" + ".a" * 299 + "c"), 600)
        self.assertEqual(len("b" + ".a" * 300), 601)

    def test_id_texts(self):
        for id, text in ((("mill", 5), "5@mill"), (("a", 1), "1@a"), (("abcdefgh", 999999), "999999@abcdefgh"),
                         (("m2", 100000), "100000@m2"), (("m", 10), "10@m")):
            self.assertEqual(id_text(id), text)
            self.assertEqual(id_of(text), id)
            self.assertIs(type(id_of(text)), tuple)

    def test_no_ids(self):
        for text in ("", "@", "5", "5@", "@mill", "0@mill", "1000000@mill", "9999999@mill", "05@mill", "005@mill",
                     "00@mill", "+5@mill", "-5@mill", " 5@mill", "5 @mill", "5@ mill", "5@mill ", "5@@mill",
                     "5@mill@hill", "5.0@mill", "5e1@mill", "1_0@mill", "5@Mill", "5@1mill", "5@abcdefghi", "mill@5",
                     "a@mill", "5a@mill", "5@mi.ll", "999999999999@mill", "1" * 60 + "@a"):
            self.assertIsNone(id_of(text), text)

    def test_split(self):
        self.assertEqual(split_address("ann@mill"), ("ann", "mill"))
        self.assertEqual(split_address("a1@b"), ("a1", "b"))

    def test_words(self):
        for row, words in (
                ("", ()), ("  ", ()), ("Fresh fish", ("fresh", "fish")), ("fish", ("fish",)), ("FISH", ("fish",)),
                ("--fish, FISH; fIsH!", ("fish", "fish", "fish")), ("2 for1 3X", ("2", "for1", "3x")),
                ("it's", ("it", "s")), ("a_b@c.d", ("a", "b", "c", "d")), (" a", ("a",)), ("a ", ("a",)),
                ("Z9" * 60, ("z9" * 60,)), ("a  b", ("a", "b")), ("[x]", ("x",)), ("{A}^`~B", ("a", "b"))):
            self.assertEqual(words_of(row), words, row)
            self.assertIs(type(words_of(row)), tuple)

    def test_words_by_each_sign(self):
        for sign in CHARACTERS:
            if sign.isalnum():
                self.assertEqual(words_of("x" + sign + "y"), ("x" + sign.lower() + "y",))
            else:
                self.assertEqual(words_of("x" + sign + "y"), ("x", "y"), sign)
