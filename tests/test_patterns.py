import random
import unittest

from criermoot.errors import BadPattern, TooLarge
from criermoot.patterns import lets, opposite, read_pattern, sight, write_pattern
from tests import plainpatterns
from tests.samples import CHARACTERS

EIGHT = "a,b,c,d,e,f,g,h"


def wrong(text):
    """The place of the first wrong character, None for a pattern."""
    try:
        read_pattern(text)
    except BadPattern as error:
        return error.at
    return None


class ReadTest(unittest.TestCase):
    def test_items(self):
        self.assertEqual(read_pattern("a"), ((1, "a"),))
        self.assertEqual(read_pattern("!a"), ((0, "a"),))
        self.assertEqual(read_pattern("town.*,!town.fish.?,*9"), ((1, "town.*"), (0, "town.fish.?"), (1, "*9")))
        self.assertEqual(read_pattern("."), ((1, "."),))
        self.assertEqual(len(read_pattern(EIGHT)), 8)
        self.assertEqual(read_pattern("a" * 60), ((1, "a" * 60),))
        self.assertEqual(read_pattern("!" + "*" * 59), ((0, "*" * 59),))

    def test_written(self):
        for pattern in ("a", "!a", "town.*,!town.fish.?,*9", EIGHT, "*", "!*,!?", "a" * 60):
            self.assertEqual(write_pattern(read_pattern(pattern)), pattern)
        self.assertEqual(write_pattern(((0, "a*"), (1, "b"))), "!a*,b")

    def test_told_places(self):
        for text, at in (
                ("", 0), ("!", 1), (",", 0), (",a", 0), ("a,", 2), ("a,!", 3), ("a!", 1), ("!!", 1), ("!!a", 1),
                ("a,,b", 2), ("a,!,b", 3), ("!,a", 1), ("A", 0), ("aB", 1), ("a b", 1), (" a", 0), ("a ", 1),
                ("a-b", 1), ("a,b!", 3), ("a@b", 1), ("a,*,?x,!a!", 9), ("a;b", 1), ("a.b,!c,D", 7)):
            self.assertEqual(wrong(text), at, text)

    def test_told_places_at_the_end(self):
        a = "a" * 58
        self.assertIsNone(wrong(a + "aa"))
        self.assertEqual(wrong(a + "aaa"), 60)
        self.assertEqual(wrong(a + "aa,"), 60)
        self.assertEqual(wrong(a + "a,"), 59)
        self.assertEqual(wrong(a + "a,a"), 59)
        self.assertEqual(wrong(a + ",a"), None)
        self.assertEqual(wrong(a + ",!"), 59)
        self.assertEqual(wrong(a + ",!a"), 59)
        self.assertEqual(wrong(a + ","), 59)
        self.assertEqual(wrong(a[1:] + ",!a"), None)
        self.assertEqual(wrong(a[1:] + ",!"), 59)
        self.assertEqual(wrong(a[1:] + ",!aa"), 60)
        self.assertEqual(wrong(a + "a" + "!"), 59)
        self.assertEqual(wrong("a" * 200), 60)
        self.assertEqual(wrong("a" * 60 + "!" * 140), 60)
        self.assertEqual(wrong("!" * 200), 1)
        self.assertEqual(wrong("," * 200), 0)
        self.assertEqual(wrong("a" * 40 + "A" + "a" * 159), 40)

    def test_eighth_comma(self):
        self.assertIsNone(wrong(EIGHT))
        self.assertEqual(wrong(EIGHT + ","), 15)
        self.assertEqual(wrong(EIGHT + ",i"), 15)
        self.assertEqual(wrong(EIGHT + "x,"), 16)
        self.assertEqual(wrong(EIGHT[:-1]), 14)
        self.assertEqual(wrong("!a," * 7 + "!"), 22)

    def test_each_sign(self):
        for sign in CHARACTERS:
            for ahead, behind in (("", ""), ("a", "a"), ("a,", ""), ("!", "")):
                text = ahead + sign + behind
                self.assertEqual(wrong(text), plainpatterns.wrong_place(text), text)

    def test_places_by_their_meaning(self):
        chance = random.Random(91)
        for _ in range(4000):
            text = "".join(chance.choices("a*?.!,", weights=(9, 3, 2, 2, 2, 3), k=chance.randrange(75)))
            if chance.random() < 0.2:
                place = chance.randrange(len(text) + 1)
                text = text[:place] + chance.choice(CHARACTERS) + text[place:]
            self.assertEqual(wrong(text), plainpatterns.wrong_place(text), text)
            if wrong(text) is None:
                self.assertEqual(read_pattern(text), tuple(plainpatterns.items_of(text)))


class LetsTest(unittest.TestCase):
    def test_last_item_decides(self):
        for pattern, board, told in (
                ("town.*,!town.fish.*", "town.fish.sale", False), ("town.*,!town.fish.*", "town.fish", True),
                ("!town.fish.*,town.*", "town.fish.sale", True), ("town.*", "hill", False), ("!a", "b", False),
                ("!a", "a", False), ("*,!a", "a", False), ("*,!a", "b", True), ("*,!a,a", "a", True),
                ("a,!a,a,!a", "a", False), ("*,!*.*", "a", True), ("*,!*.*", "a.b", False), ("a,b", "a", True),
                ("a,b", "b", True), ("a,b", "a,b", False), ("?", "a", True), ("b,a,!b", "a", True)):
            self.assertIs(lets(pattern, board), told, (pattern, board))

    def test_long_boards(self):
        board = "a." * 299 + "bc"
        self.assertIs(lets("*,!*bc", board), False)
        self.assertIs(lets("*a*a*a*a*c,!?", board), True)
        self.assertIs(lets("?" * 60, board), False)

    def test_by_its_meaning(self):
        chance = random.Random(92)
        for _ in range(1500):
            pattern = ",".join(chance.choice(("", "", "!")) + "".join(chance.choices("ab.*?*", k=chance.randrange(1, 6)))
                               for _ in range(chance.randrange(1, 6)))
            board = ".".join("".join(chance.choices("ab1", k=chance.randrange(1, 3))) for _ in range(2))
            self.assertIs(lets(pattern, board), plainpatterns.lets(pattern, board), (pattern, board))

    def test_opposite(self):
        for pattern, told in (("town.*,!town.fish", "*,!town.*,town.fish"), ("a", "*,!a"), ("!a", "*,a"),
                              ("*", "*,!*"), ("!*,!b", "*,*,b")):
            self.assertEqual(opposite(pattern), told)

    def test_opposite_lets_the_others(self):
        chance = random.Random(93)
        for _ in range(300):
            pattern = ",".join(chance.choice(("", "!")) + "".join(chance.choices("ab.*?*", k=chance.randrange(1, 5)))
                               for _ in range(chance.randrange(1, 6)))
            for board in ("a", "b", "a.a", "ab", "b.b.a", "c", "a1"):
                self.assertIsNot(lets(pattern, board), lets(opposite(pattern), board), (pattern, board))

    def test_too_large(self):
        for pattern in (EIGHT, "a" * 58, "!a," * 7 + "!b", "a" * 60, "a,!" + "a" * 56, "!" + "a" * 59):
            with self.assertRaises(TooLarge) as caught:
                opposite(pattern)
            self.assertEqual(caught.exception.part, "pattern")
        for pattern in (EIGHT[:-2], "a" * 57, "!" + "a" * 58, "a,!" + "a" * 55, "!a," * 6 + "!b"):
            self.assertEqual(plainpatterns.is_pattern(opposite(pattern)), True, pattern)
        self.assertEqual(len(opposite("a" * 57)), 60)

    def test_sight(self):
        self.assertEqual(sight(("a*", "*.b", "!*"), ("a.b",)), (1, 1, 0))
        self.assertEqual(sight(("a*", "*.b", "!*"), ("b.b", "a")), (1, 1, 0))
        self.assertEqual(sight(("a*", "*.b", "c"), ("d",)), (0, 0, 0))
        self.assertEqual(sight((), ("d",)), ())
        self.assertEqual(sight(("a",), ()), (0,))
        self.assertTrue(all(type(one) is int for one in sight(("a", "b"), ("a",))))
