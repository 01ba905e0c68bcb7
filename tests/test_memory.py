import itertools
import random
import unittest

from criermoot.books import wrong_part
from criermoot.errors import TooMany
from criermoot.memory import enough, least_memory, senders_to
from tests import drawn, plainpatterns, plainreach
from tests.sitecase import small_book
from tests.test_allreach import CHAINS, LAST_CHAIN, book_of, patterns_of, plain_sights
from tests.test_parting import SPOTS_600, SPOTS_601


def all_kinds(book):
    """Kinds that are like all others, seen by the book."""
    boards = [board for _, board in plainpatterns.atoms(patterns_of(book))]
    sizes = {entry[5] for entry in book[5]} | {1, 2000}
    for many in (1, 2, 3):
        for chosen in itertools.combinations(boards, many):
            for size in sizes:
                for entry in book[3]:
                    yield ("kind", entry[1], chosen, size)


def plain_senders(book, site):
    found = set()
    for kind in all_kinds(book):
        reached = dict(plainreach.reach(book, kind))
        for _, giver, taker, pattern, hops, size in book[5]:
            if taker == site and giver in reached and plainreach.carries(book, site, kind[2]):
                if plainreach.one_let(pattern, kind[2]) and kind[3] <= size and reached[giver] + 1 <= hops:
                    found.add(kind[1])
    return tuple(sorted(found))


def offsets(book, **told):
    """The book with the told offsets of sites."""
    sites = tuple(entry[:2] + (told.get(entry[1], 0),) + entry[3:] for entry in book[3])
    return book[:3] + (sites,) + book[4:]


def named(ask):
    try:
        ask()
    except TooMany as error:
        return error.part
    return None


class SendersTest(unittest.TestCase):
    def check(self, book, **told):
        for name, senders in told.items():
            self.assertEqual(senders_to(book, name), tuple(senders.split()), name)
            self.assertEqual(plain_senders(book, name), tuple(senders.split()), name)

    def test_chain(self):
        self.check(small_book("a>b", "b>c"), a="", b="a", c="a b")
        self.check(small_book("c>b", "b>a", d="*"), a="b c", b="c", c="", d="")

    def test_hops(self):
        self.check(small_book("a>b", ("b>c", "*", 1), ("c>d", "*", 2)), b="a", c="b", d="b c")
        # The giver has it with fewer hops over the other feed.
        self.check(small_book("a>b", "a>c", "b>c", ("c>d", "*", 2)), d="a b c")

    def test_patterns(self):
        self.check(small_book(("a>b", "x*"), ("b>c", "*,!x*")), b="a", c="a b")
        self.check(small_book(("a>b", "x"), ("b>c", "y"), a="x", b="*,!y"), b="a", c="a b")
        # A notice has up to three boards, by which the feeds let it one after the other.
        self.check(small_book(("a>b", "x"), ("b>c", "y"), ("c>d", "z"), ("d>e", "w")), c="a b", d="a b c", e="b c d")

    def test_patterns_of_sites(self):
        self.check(small_book("a>b", "b>c", b="x", c="y"), b="a", c="a b")
        self.check(small_book(("a>b", "x"), b="y"), b="a")
        self.check(small_book(("a>b", "x"), b="*,!y", a="y"), b="a")
        self.check(small_book("a>b", a="!*", b="*"), b="")
        self.check(small_book("a>b", a="*", b="!*"), b="")

    def test_sizes(self):
        """What is small enough for all feeds comes, however small their sizes are."""
        self.check(small_book(("a>b", "*", 9, 1), ("b>c", "*", 9, 2)), c="a b")

    def test_a_site_that_sends_to_itself(self):
        self.check(small_book("a>b", "b>a"), a="a b", b="a b")
        self.check(small_book("a>b", ("b>a", "*", 1)), a="b", b="a b")
        self.check(small_book("a>b", "b>c", "c>a"), a="a b c", b="a b c")
        self.check(small_book(("a>b", "x"), ("b>a", "y")), a="a b", b="a b")

    def test_stewards_do_not_matter(self):
        stewards = (("steward", "*", "ann@a", ()),)
        self.check(small_book("a>b", "b>c", stewards=stewards), a="", b="a", c="a b")

    def test_drawn(self):
        chance = random.Random(58)
        for number in range(80):
            book = plainreach.random_book(chance, most=4) if number % 2 else drawn.draw_book(chance, most=3, lists=0)
            try:
                told = [senders_to(book, entry[1]) for entry in book[3]]
            except TooMany as error:
                self.assertEqual(error.part, "sights")
                self.assertGreater(len(plain_sights(patterns_of(book))), 60)
                continue
            self.assertEqual(told, [plain_senders(book, entry[1]) for entry in book[3]])


class LeastMemoryTest(unittest.TestCase):
    def check(self, book, **told):
        for name, memory in told.items():
            self.assertEqual(least_memory(book, name), memory, name)

    def test_offsets(self):
        book = offsets(small_book("a>b", "b>c", "c>d"), a=5, b=9, c=2)
        self.check(book, a=0, b=46, c=57, d=59)
        self.check(offsets(small_book("a>b", window=20), b=20), b=0)
        self.check(offsets(small_book("a>b", window=20), b=19), b=1)
        self.check(offsets(small_book("a>b", "b>a"), a=3, b=7), a=54, b=50)

    def test_only_senders_count(self):
        book = offsets(small_book("a>b", ("b>c", "*", 1), d="*"), a=30, d=40)
        self.check(book, b=80, c=50, d=0)

    def test_stewards(self):
        """With stewards all sites count, if some kind comes to the site at all."""
        stewards = (("steward", "none", "ann@a", ()),)
        book = offsets(small_book("a>b", ("b>c", "*", 1), d="*", stewards=stewards), a=30, d=40)
        self.check(book, a=0, b=90, c=90, d=0)
        self.check(offsets(small_book("a>b", stewards=stewards), a=1, b=9), a=0, b=50)

    def test_enough(self):
        book = offsets(small_book("a>b", "b>a"), a=3, b=7)
        for first, second in ((54, 50), (53, 50), (54, 49), (60, 60), (0, 0)):
            memories = {"a": first, "b": second}
            told = enough(drawn.with_memories(book, lambda name: memories[name]))
            self.assertIs(told, first >= 54 and second >= 50)
        self.assertIs(enough(small_book(a="*", memory=0)), True)


class TooManyTest(unittest.TestCase):
    ASKED = (lambda book: senders_to(book, book[3][0][1]), lambda book: least_memory(book, book[3][-1][1]), enough)

    def check(self, book, told):
        self.assertIsNone(wrong_part(book))
        for ask in self.ASKED:
            self.assertEqual(named(lambda: ask(book)), told)

    def test_spots(self):
        self.check(book_of((SPOTS_600,)), None)
        self.check(book_of((SPOTS_601,)), "spots")
        self.check(plainreach.net(("a>b", SPOTS_601), a="*", b="*"), "spots")

    def test_sights(self):
        names = tuple(f"{letter}*" for letter in "abcdefg")
        self.check(book_of(names[:6]), None)
        self.check(book_of(names), "sights")
        self.check(book_of(tuple(f"*a{'?' * number}" for number in range(6))), "sights")

    def test_which_is_told_first(self):
        self.check(book_of(CHAINS + (LAST_CHAIN,)), "sights")
        self.check(book_of(CHAINS[:7] + (SPOTS_601,) + (CHAINS[7], LAST_CHAIN)), "spots")

    def test_enough_or_not(self):
        """It is raised though the first site remembers for too short a time."""
        book = book_of((SPOTS_601,) * 2)
        self.check(book, "spots")
