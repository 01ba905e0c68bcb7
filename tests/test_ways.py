import itertools
import random
import unittest

from criermoot.reach import hops_of
from criermoot.ways import judge_labels, judge_way, least_way
from tests import plainreach
from tests.plainreach import kind, net


class LeastWayTest(unittest.TestCase):
    def test_few_sites(self):
        book = net("a>b", "b>c", "c>d", "a>d", "d>e")
        self.assertEqual(least_way(book, kind("a"), "a"), ("a",))
        self.assertEqual(least_way(book, kind("a"), "d"), ("a", "d"))
        self.assertEqual(least_way(book, kind("a"), "e"), ("a", "d", "e"))
        self.assertEqual(least_way(book, kind("b"), "e"), ("b", "c", "d", "e"))
        self.assertIsNone(least_way(book, kind("b"), "a"))
        self.assertIsNone(least_way(net("a>b", a="b"), kind("a"), "a"))

    def test_least_tuple(self):
        # Over the lesser first site, though the later one is greater, and whatever the order of the feeds is.
        feeds = ("a>b", "a>c", "b>e", "c>d", "d>f", "e>f")
        for told in itertools.permutations(feeds):
            self.assertEqual(least_way(net(*told), kind("a"), "f"), ("a", "b", "e", "f"))
        self.assertEqual(least_way(net("d>c", "d>b", "c>a", "b>a"), kind("d"), "a"), ("d", "b", "a"))
        self.assertEqual(least_way(net("a>b", "a>c", "b>d", "c>d", b="b"), kind("a"), "d"), ("a", "c", "d"))

    def test_by_the_meaning(self):
        chance = random.Random(22)
        for _ in range(200):
            book = plainreach.random_book(chance)
            some = plainreach.random_kind(chance, book)
            ways = plainreach.least_ways(book, some)
            for entry in book[3]:
                told = least_way(book, some, entry[1])
                self.assertEqual(told, ways.get(entry[1]), (book, some))
                if told is not None:
                    self.assertIs(judge_way(book, some, entry[1], told), True)


class JudgeWayTest(unittest.TestCase):
    book = net("a>b", "b>c", "c>a", "a>c", ("c>d", "*", 2), "b>a", "d>c", ("c>e", "b"), ("d>e", "*", 9, 5), x="*,!a")

    def check(self, site, way, told, **parts):
        self.assertIs(judge_way(self.book, kind("a", **parts), site, way), told, way)

    def test_right_ways(self):
        self.check("a", ("a",), True)
        self.check("c", ("a", "c"), True)
        self.check("c", ("a", "b", "c"), True)
        self.check("d", ("a", "c", "d"), True)
        self.check("e", ("a", "c", "d", "e"), True)
        self.check("e", ("a", "c", "d", "e"), True, size=5)

    def test_wrong_ways(self):
        self.check("a", (), False)
        self.check("b", (), False)
        self.check("a", ("a", "b", "a"), False)
        self.check("c", ("a", "c", "a", "c"), False)
        self.check("b", ("b",), False)
        self.check("c", ("b", "c"), False)
        self.check("c", ("a", "b"), False)
        self.check("b", ("a", "b", "c"), False)
        self.check("d", ("a", "b", "c", "d"), False)
        self.check("d", ("a", "d"), False)
        self.check("e", ("a", "c", "e"), False)
        self.check("e", ("a", "c", "d", "e"), False, size=6)
        for name in ("f", "", "A", "mill", "a" * 700, " ", "*"):
            for way in ((name,), ("a", name), (name, "a"), ("a", name, "c"), ("a",) * 599 + (name,)):
                self.check("a", way, False)
                self.check("c", way, False)
        self.check("a", ("a",) * 600, False)

    def test_sites_that_do_not_carry(self):
        for pattern, told in (("*", True), ("*,!a", False), ("b", False)):
            for name in "abc":
                book = net("a>b", "b>c", **{name: pattern})
                self.assertIs(judge_way(book, kind("a"), "c", ("a", "b", "c")), told)
            self.assertIs(judge_way(net(a=pattern), kind("a"), "a", ("a",)), told)

    def test_by_the_meaning(self):
        chance = random.Random(23)
        for _ in range(60):
            book = plainreach.random_book(chance, most=4)
            some = plainreach.random_kind(chance, book, most=5)
            right = plainreach.ways(book, some)
            names = [entry[1] for entry in book[3]]
            for many in range(4):
                for way in itertools.product(names, repeat=many):
                    for site in names:
                        told = way in right and way[-1] == site
                        self.assertIs(judge_way(book, some, site, way), told, (book, some, way))


class JudgeLabelsTest(unittest.TestCase):
    def check(self, book, labels, told, **parts):
        self.assertIs(judge_labels(book, kind("a", **parts), labels), told, labels)

    def test_labels_of_a_chain(self):
        book = net("a>b", ("b>c", "*", 2), ("c>d", "*", 2))
        for labels in ((0, 1, 2, None), (0, 0, 0, 0), (0, 1, 1, 2), (0, 1, 2, 3), (0, 0, 1, 2), (0, 1, 0, 1),
                       (0, 1, 2, 1000000)):
            self.check(book, labels, True)
        for labels in ((0, 1, 1, None), (0, 2, 2, None), (0, 1, 3, None), (0, None, None, None), (0, 1, None, None),
                       (1, 1, 2, None), (None, 1, 2, None), (0, 1, 1, 3), (0, 0, 2, 2), (0, 0, None, None)):
            self.check(book, labels, False)

    def test_forms_of_labels(self):
        book = net("a>b")
        self.check(book, (0, 1), True)
        for labels in ((), (0,), (0, 1, 1), (0, 1, None), (0, 1) * 300, (0, -1), (-1, 0), (-1000000, 1), (0, -1000000)):
            self.check(book, labels, False)
        self.check(net("a>b", c="*"), (0, 1, -1), False)
        self.check(net("a>b", c="*"), (0, 1, 5), True)
        self.check(net("a>b", a="b"), (None, None), True)
        self.check(net("a>b", a="b"), (-1, None), False)

    def test_origin_that_does_not_carry(self):
        book = net("a>b", a="*,!a")
        self.check(book, (None, None), True)
        self.check(book, (0, 1), True)
        self.check(book, (5, None), False)
        self.check(book, (5, 6), True)
        # A label of the giver counts, whether that carries the kind or not.
        self.check(book, (0, None), False)

    def test_feeds_that_do_not_pass(self):
        self.check(net(("a>b", "b")), (0, None), True)
        self.assertIs(judge_labels(net(("a>b", "b")), kind("a", "a", "b"), (0, None)), False)
        for size, told in ((5, False), (6, True)):
            self.check(net(("a>b", "*", 9, 5)), (0, None), told, size=size)
        for bound, told in ((1, True), (2, False), (3, False)):
            self.check(net("a>b", ("b>c", "*", bound)), (0, 1, None), told)
        self.check(net("a>b", b="b"), (0, None), True)
        self.check(net("a>b", b="*"), (0, None), False)

    def test_hops_are_taken_and_bounded(self):
        chance = random.Random(24)
        for _ in range(150):
            book = plainreach.random_book(chance, most=4)
            some = plainreach.random_kind(chance, book)
            hops = hops_of(book, some)
            self.assertIs(judge_labels(book, some, hops), True)
            for _ in range(10):
                labels = tuple(chance.choice((label, label, 0, 1, 2, None)) for label in hops)
                told = judge_labels(book, some, labels)
                self.assertIs(told, self.plain_judge(book, some, labels), (book, some, labels))
                if told:
                    for label, most in zip(labels, hops):
                        self.assertTrue(most is None or (label is not None and label <= most))

    def plain_judge(self, book, some, labels):
        told = dict(zip([entry[1] for entry in book[3]], labels))
        if plainreach.carries(book, some[1], some[2]) and told[some[1]] != 0:
            return False
        for entry in book[5]:
            label, behind = told[entry[1]], told[entry[2]]
            if label is None or not plainreach.one_let(entry[3], some[2]) or some[3] > entry[5]:
                continue
            if label + 1 <= entry[4] and plainreach.carries(book, entry[2], some[2]):
                if behind is None or behind > label + 1:
                    return False
        return True
