import itertools
import random
import unittest

from criermoot.allreach import looked_up, table_of
from criermoot.books import wrong_part
from criermoot.errors import TooMany
from criermoot.reach import reach
from tests import plainpatterns, plainreach
from tests.plainreach import kind, net
from tests.test_parting import SPOTS_600, SPOTS_601

# Chains of boards, each let by a further pattern: 1, 1 and 2 long; and all other boards, 4 or 5 long.
CHAINS = ("a", "b", "c*", "c", "*,!a,!b,!c*", "d*", "dd*", "ddd*")
LAST_CHAIN = "dddd*"


def patterns_of(book):
    return tuple(entry[5] for entry in book[3]) + tuple(entry[3] for entry in book[5])


def plain_sights(patterns):
    """All sights of 1 to 3 boards, by all choices of as many atoms."""
    singles = [seen for seen, _ in plainpatterns.atoms(patterns)]
    found = set()
    for many in (1, 2, 3):
        for chosen in itertools.combinations(singles, many):
            found.add(tuple(max(bits) for bits in zip(*chosen)) if patterns else ())
    return sorted(found)


def book_of(patterns):
    """A book with these patterns: at most 8 of sites in a row, then those of feeds."""
    names = "abcdefgh"[:min(len(patterns), 8)]
    sites = tuple(("site", name, 0, 0, 0, pattern) for name, pattern in zip(names, patterns))
    pairs = list(zip(names, names[1:]))
    feeds = tuple(("feed", giver, taker, pattern, 9, 9) for (giver, taker), pattern in zip(pairs, patterns[8:]))
    book = ("book", 50, (1, 8), sites, tuple(pairs), feeds, (), ())
    assert wrong_part(book) is None and patterns_of(book) == tuple(patterns)
    return book


def told_many(book):
    try:
        return len(table_of(book))
    except TooMany as error:
        return error.part


class TableTest(unittest.TestCase):
    def check(self, book):
        self.assertIsNone(wrong_part(book))
        table = table_of(book)
        self.assertIs(type(table), tuple)
        patterns = patterns_of(book)
        self.assertEqual([entry[0] for entry in table], plain_sights(patterns))
        sizes = sorted({entry[5] for entry in book[5]})
        sizes.append(sizes[-1] + 1 if sizes else 1)
        for seen, boards, rows in table:
            self.assertTrue(1 <= len(boards) <= 3 and len(set(boards)) == len(boards))
            self.assertEqual(tuple(int(plainreach.one_let(pattern, boards)) for pattern in patterns), seen)
            self.assertEqual([size for size, _ in rows], sizes)
            for size, reaches in rows:
                self.assertEqual(reaches, tuple(plainreach.reach(book, ("kind", entry[1], boards, size))
                                                for entry in book[3]))
        return table

    def test_no_feeds(self):
        table = self.check(net(a="*"))
        self.assertEqual(table, (((1,), ("a",), ((1, ((("a", 0),),)),)),))
        table = self.check(net(a="a", b="*"))
        self.assertEqual([entry[0] for entry in table], [(0, 1), (1, 1)])
        self.assertEqual(table[0][2], ((1, ((), (("b", 0),))),))
        self.assertEqual(table[1][2], ((1, ((("a", 0),), (("b", 0),))),))

    def test_one_size(self):
        table = self.check(net(("a>b", "*", 1, 5)))
        self.assertEqual(table, (((1, 1, 1), ("a",), (
            (5, ((("a", 0), ("b", 1)), (("b", 0),))), (6, ((("a", 0),), (("b", 0),))))),))

    def test_several_sizes(self):
        table = self.check(net(("a>b", "*", 9, 7), ("b>c", "a*", 9, 3), ("c>a", "*a", 2, 7), ("a>c", "*", 1, 99)))
        self.assertEqual([size for size, _ in table[0][2]], [3, 7, 99, 100])

    def test_order_of_sites(self):
        book = net(("a>b", "*", 9, 7))
        self.check(book[:3] + (book[3][::-1],) + book[4:])

    def test_patterns_that_overlap(self):
        table = self.check(net(("a>b", "a*"), ("b>a", "*b"), a="a*,b*", b="*,!ab"))
        self.assertGreater(len(table), 6)
        self.check(net(("a>b", "a"), ("b>a", "b"), a="c", b="d"))

    def test_sights_of_three_boards(self):
        book = net(("a>b", "a"), ("b>a", "b"), a="c", b="d")
        self.assertEqual(len(table_of(book)), 1 + 4 + 6 + 4)
        self.assertNotIn((1, 1, 1, 1), [entry[0] for entry in table_of(book)])
        book = net(("a>b", "a"), ("b>a", "b"), a="c", b="*")
        self.assertEqual(len(table_of(book)), 1 + 3 + 3 + 1)

    def test_by_the_meaning(self):
        chance = random.Random(27)
        for _ in range(25):
            self.check(plainreach.random_book(chance, most=3))


class BoundsTest(unittest.TestCase):
    def test_sights(self):
        names = tuple(f"{letter}*" for letter in "abcdefghijklmnopqrstuvwxyz")
        for patterns, many in (((), 0), (("*",), 1), (CHAINS, 51), (CHAINS + (LAST_CHAIN,), 61), (names[:6], 42),
                               (("a*", "aa*", "b*", "bb*", "bbb*", "c*", "cc*", "ccc*", "cccc*"), 60),
                               (names[:7], 64), (names[:12], 299)):
            if patterns:
                self.assertEqual(len(plain_sights(patterns)), many)
                self.assertEqual(told_many(book_of(patterns)), many if many <= 60 else "sights")

    def test_single_boards_alone(self):
        """More than 60 sights of single boards are too many, too."""
        patterns = tuple(f"*a{'?' * number}" for number in range(6))
        self.assertEqual(len(plainpatterns.atoms(patterns)), 64)
        self.assertEqual(told_many(book_of(patterns)), "sights")
        # Without the sights of two and of three boards there would be few enough.
        names = tuple(f"{letter}*" for letter in "abcdefg")
        self.assertEqual(len(plainpatterns.atoms(names)), 8)
        self.assertEqual(told_many(book_of(names)), "sights")

    def test_sights_of_two_boards_are_few_enough(self):
        patterns = ("a*", "b*", "c*", "d*", "e*", "f*", "g*")
        singles = plainpatterns.atoms(patterns)
        self.assertEqual(len(singles) + len(list(itertools.combinations(singles[1:], 2))), 29)
        self.assertEqual(told_many(book_of(patterns)), "sights")

    def test_spots(self):
        self.assertEqual(told_many(book_of((SPOTS_600,))), 2)
        self.assertEqual(told_many(book_of((SPOTS_600,) * 8)), 2)
        self.assertEqual(told_many(book_of((SPOTS_601,))), "spots")
        self.assertEqual(told_many(net(("a>b", SPOTS_600), a=SPOTS_600, b=SPOTS_600)), 2)
        self.assertEqual(told_many(net(("a>b", SPOTS_601), a="*", b="*")), "spots")
        self.assertEqual(told_many(net(("a>b", "c*"), a=SPOTS_600, b=SPOTS_600)), "spots")

    def test_which_is_told_first(self):
        self.assertEqual(told_many(book_of(CHAINS + (LAST_CHAIN,))), "sights")
        self.assertEqual(told_many(book_of(CHAINS[:7] + (SPOTS_601,) + (CHAINS[7], LAST_CHAIN))), "spots")


class LookedUpTest(unittest.TestCase):
    def test_sizes(self):
        book = net(("a>b", "*", 9, 5), ("b>c", "*", 9, 3))
        table = table_of(book)
        for size in (1, 2, 3, 4, 5, 6, 7, 99, 100, 2000):
            some = kind("a", size=size)
            self.assertEqual(looked_up(book, table, some), reach(book, some))
            self.assertEqual(len(looked_up(book, table, some)), 3 if size <= 3 else 2 if size <= 5 else 1)
        book = net(a="*", b="a")
        self.assertEqual(looked_up(book, table_of(book), kind("b", size=2000)), (("b", 0),))
        self.assertEqual(looked_up(book, table_of(book), kind("b", "b", size=1)), ())

    def test_taken_from_the_table(self):
        book = net(("a>b", "*", 9, 5))
        table = tuple((seen, boards, tuple((size, (("told", size), None)) for size, _ in rows))
                      for seen, boards, rows in table_of(book))
        self.assertEqual(looked_up(book, table, kind("a", size=5)), ("told", 5))
        self.assertEqual(looked_up(book, table, kind("a", size=7)), ("told", 6))
        self.assertIsNone(looked_up(book, table, kind("b", size=7)))

    def test_each_kind(self):
        chance = random.Random(28)
        for _ in range(20):
            book = plainreach.random_book(chance, most=4)
            try:
                table = table_of(book)
            except TooMany as error:
                self.assertEqual(error.part, "sights")
                continue
            for _ in range(40):
                some = plainreach.random_kind(chance, book)
                self.assertEqual(looked_up(book, table, some), plainreach.reach(book, some), (book, some))
