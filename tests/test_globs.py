import itertools
import random
import unittest

from criermoot.globs import fits, follows, standing
from tests.plainpatterns import stands_for

GLOBS = ["".join(signs) for many in (1, 2, 3, 4) for signs in itertools.product("a.*?", repeat=many)]


class GlobsTest(unittest.TestCase):
    def test_told_standings(self):
        self.assertEqual(standing("a*b", "ab"), (2, 3))
        self.assertEqual(standing("a*b", ""), (0,))
        self.assertEqual(standing("*", ""), (0, 1))
        self.assertEqual(standing("***", ""), (0, 1, 2, 3))
        self.assertEqual(standing("***", "a"), (1, 2, 3))
        self.assertEqual(standing("**a**b", ""), (0, 1, 2))
        self.assertEqual(standing("**a**b", "a"), (1, 2, 3, 4, 5))
        self.assertEqual(standing("a", "b"), ())
        self.assertEqual(standing("a.b", "a."), (2,))
        self.assertEqual(standing("?", "."), (1,))
        self.assertEqual(standing("?", "ab"), ())
        self.assertEqual(standing("*?", "ab"), (1, 2))
        self.assertEqual(standing("*a?", "aaa"), (1, 2, 3))

    def test_standings_by_their_meaning(self):
        beginnings = ["", "a", "b", "a.", "a.b", "ab", "aa", "b.a.", "aab", "a1.a"]
        for glob in GLOBS:
            for beginning in beginnings:
                told = tuple(place for place in range(len(glob) + 1) if stands_for(glob[:place], beginning))
                self.assertEqual(standing(glob, beginning), told, (glob, beginning))

    def test_what_follows(self):
        self.assertEqual(follows("a*b", (0,), "a"), (1, 2))
        self.assertEqual(follows("a*b", (1, 2), "b"), (2, 3))
        self.assertEqual(follows("a*b", (1, 2), "c"), (2,))
        self.assertEqual(follows("a*b", (2, 3), "."), (2,))
        self.assertEqual(follows("?1.", (0,), "."), (1,))
        self.assertEqual(follows("?1.", (1,), "1"), (2,))
        self.assertEqual(follows("?1.", (2,), "."), (3,))
        self.assertEqual(follows("?1.", (3,), "a"), ())
        self.assertEqual(follows("a", (), "a"), ())
        self.assertEqual(follows("a*?*a", (1, 2), "a"), (2, 3, 4))
        # A place at which the glob has a star is left, unless a star stands directly in front of it.
        self.assertEqual(follows("**", (0, 1, 2), "a"), (1, 2))
        self.assertEqual(follows("*?a", (0, 1), "a"), (1, 2))

    def test_follows_each_kind_of_character(self):
        for glob in GLOBS:
            for beginning in ("", "a", "a.", "ab"):
                for sign in "ab0.":
                    self.assertEqual(follows(glob, standing(glob, beginning), sign), standing(glob, beginning + sign))

    def test_fits(self):
        for glob, board, told in (
                ("a", "a", True), ("a", "b", False), ("a", "aa", False), ("?", "a", True), ("?", "aa", False),
                ("*", "a", True), ("*", "a.b", True), ("*", "", True), ("", "", True), ("", "a", False),
                ("town.*", "town.fish", True), ("town.*", "town", False), ("town.*", "town.a.b", True),
                ("town*", "town", True), ("town?fish", "town.fish", True), ("town?fish", "townfish", False),
                ("*.fish", "town.fish", True), ("*.fish", "fish", False), ("*fish*", "afishb", True),
                ("a.b", "axb", False), ("a*", "a", True), ("a?*", "a", False), ("a**", "a", True),
                ("*a*a*", "a.b.a", True), ("*a*a*", "a.b", False), ("1*", "1", True), ("?*?", "a", False)):
            self.assertIs(fits(glob, board), told, (glob, board))

    def test_fits_by_its_meaning(self):
        boards = ["a", "b", "aa", "ab", "ba", "a.a", "a.b", "aaa", "aba", "a.a.a", "ab.ba", "aaaa"]
        for glob in GLOBS:
            for board in boards:
                self.assertIs(fits(glob, board), stands_for(glob, board), (glob, board))

    def test_long_boards(self):
        board = "a." * 299 + "bc"
        self.assertIs(fits("*c", board), True)
        self.assertIs(fits("*b", board), False)
        self.assertIs(fits("?" * 60, "a" * 60), True)
        self.assertIs(fits("*" * 60, board), True)
        self.assertIs(fits("*a" * 30, board), False)
        self.assertIs(fits("*a" * 29 + "*c", board), True)
        self.assertIs(fits("a" * 60, "a" * 600), False)

    def test_long_globs(self):
        chance = random.Random(9)
        for _ in range(200):
            glob = "".join(chance.choices("ab.?**", k=chance.randrange(5, 30)))
            board = "".join(chance.choices("ab.", k=chance.randrange(1, 40)))
            self.assertIs(fits(glob, board), stands_for(glob, board), (glob, board))

    def test_kinds(self):
        self.assertIs(type(standing("a*", "a")), tuple)
        self.assertIs(type(follows("a*", (0,), "a")), tuple)
        self.assertEqual(standing("a*", "a"), standing("a*", "a"))
