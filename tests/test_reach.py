import random
import unittest

from criermoot.books import wrong_part
from criermoot.reach import hops_of, reach
from tests import plainreach
from tests.plainreach import kind, net


class ReachTest(unittest.TestCase):
    def check(self, book, some, told):
        self.assertIsNone(wrong_part(book))
        self.assertEqual(reach(book, some), told)
        self.assertEqual(hops_of(book, some), plainreach.hops(book, some))
        self.assertEqual(plainreach.reach(book, some), told)

    def test_origin_alone(self):
        self.check(net(a="*"), kind("a"), (("a", 0),))
        self.check(net(a="*,!a"), kind("a"), ())
        self.check(net(a="*,!a"), kind("a", "a", "b"), (("a", 0),))

    def test_origin_that_does_not_carry(self):
        self.check(net("a>b", "b>a", a="b"), kind("a"), ())
        self.check(net("a>b", "b>a", a="b"), kind("a", "a", "b"), (("a", 0), ("b", 1)))

    def test_rings(self):
        ring = net("a>b", "b>c", "c>d", "d>a")
        self.check(ring, kind("a"), (("a", 0), ("b", 1), ("c", 2), ("d", 3)))
        self.check(ring, kind("c"), (("a", 2), ("b", 3), ("c", 0), ("d", 1)))
        both = net("a>b", "b>a", "b>c", "c>b", "c>a", "a>c")
        self.check(both, kind("b"), (("a", 1), ("b", 0), ("c", 1)))

    def test_sites_that_do_not_carry(self):
        self.check(net("a>b", "b>c", b="*,!a"), kind("a"), (("a", 0),))
        self.check(net("a>b", "b>c", "a>d", "d>e", "e>c", b="*,!a"), kind("a"), (("a", 0), ("c", 3), ("d", 1), ("e", 2)))
        self.check(net("a>b", "b>c", b="*,!a"), kind("a", "a", "b"), (("a", 0), ("b", 1), ("c", 2)))

    def test_patterns_of_feeds(self):
        book = net(("a>b", "b*"), ("b>c", "a"))
        self.check(book, kind("a"), (("a", 0),))
        self.check(book, kind("a", "b1"), (("a", 0), ("b", 1)))
        self.check(book, kind("a", "b1", "a"), (("a", 0), ("b", 1), ("c", 2)))

    def test_sizes_of_feeds(self):
        book = net(("a>b", "*", 9, 5), ("b>c", "*", 9, 4))
        for size, told in ((1, 3), (4, 3), (5, 2), (6, 1), (99, 1), (2000, 1)):
            self.check(book, kind("a", size=size), (("a", 0), ("b", 1), ("c", 2))[:told])

    def test_hops_of_feeds(self):
        for bound, told in ((1, 2), (2, 3), (3, 3)):
            self.check(net(("a>b", "*", 1), ("b>c", "*", bound)), kind("a"), (("a", 0), ("b", 1), ("c", 2))[:told])
        for bound in range(1, 8):
            chain = net(*[(f"{name}>{other}", "*", bound) for name, other in zip("abcdefg", "bcdefgh")])
            self.check(chain, kind("a"), tuple(zip("abcdefgh", range(bound + 1))))

    def test_hops_bounded_further_on(self):
        # Only over the shorter way does the last feed still pass.
        book = net("a>b", "b>c", "a>c", ("c>d", "*", 2))
        self.check(book, kind("a"), (("a", 0), ("b", 1), ("c", 1), ("d", 2)))
        book = net("a>b", "b>c", ("a>c", "b"), ("c>d", "*", 2))
        self.check(book, kind("a"), (("a", 0), ("b", 1), ("c", 2)))
        self.check(book, kind("a", "b"), (("a", 0), ("b", 1), ("c", 1), ("d", 2)))

    def test_order_of_sites(self):
        book = net("c>a", "a>b")
        turned = book[:3] + (book[3][::-1],) + book[4:]
        self.assertEqual(reach(turned, kind("c")), (("a", 1), ("b", 2), ("c", 0)))
        self.assertEqual(hops_of(turned, kind("c")), (0, 2, 1))
        self.assertEqual(hops_of(book, kind("c")), (1, 2, 0))
        self.assertEqual(hops_of(turned, kind("b")), (None, 0, None))

    def test_by_the_meaning(self):
        chance = random.Random(21)
        for _ in range(300):
            book = plainreach.random_book(chance)
            some = plainreach.random_kind(chance, book)
            self.assertEqual(reach(book, some), plainreach.reach(book, some), (book, some))
            self.assertEqual(hops_of(book, some), plainreach.hops(book, some), (book, some))
