import random
import unittest

from criermoot.apart import judge_spare, spare
from tests import plainreach
from tests.plainreach import kind, net


class SpareTest(unittest.TestCase):
    def test_few_feeds(self):
        self.assertEqual(spare(net("a>b"), kind("a"), "b"), ("spare", (("a", "b"),), (("a", "b"),)))
        self.assertEqual(spare(net("b>a"), kind("a"), "b"), ("spare", (), ()))
        self.assertEqual(spare(net("a>b", a="b"), kind("a"), "b"), ("spare", (), ()))
        self.assertEqual(spare(net("a>b", b="b"), kind("a"), "b"), ("spare", (), ()))
        self.assertEqual(spare(net(("a>b", "b")), kind("a"), "b"), ("spare", (), ()))
        self.assertEqual(spare(net(("a>b", "*", 1, 5)), kind("a", size=6), "b"), ("spare", (), ()))

    def test_hops_are_left_aside(self):
        book = net(("a>b", "*", 1), ("b>c", "*", 1), ("c>d", "*", 1), "a>d")
        paper = spare(book, kind("a"), "d")
        self.assertEqual(sorted(paper[1]), [("a", "b", "c", "d"), ("a", "d")])
        self.assertIs(judge_spare(book, kind("a"), "d", paper), True)

    def test_ways_that_must_be_turned(self):
        # The shortest way takes a feed that must be left to the two others.
        book = net("a>b", "b>e", "e>h", "a>c", "c>e", "b>d", "d>h")
        paper = spare(book, kind("a"), "h")
        self.assertEqual((len(paper[1]), len(paper[2])), (2, 2))
        self.assertIs(judge_spare(book, kind("a"), "h", paper), True)

    def test_by_all_sets(self):
        chance = random.Random(25)
        many = {}
        for _ in range(250):
            book = plainreach.random_book(chance, patterns=("*", "*", "*", "a*", "*,!b"))
            some = plainreach.random_kind(chance, book, most=4)
            for entry in book[3]:
                if entry[1] == some[1]:
                    continue
                paper = spare(book, some, entry[1])
                least = plainreach.least_cut(book, some, entry[1])
                many[least] = many.get(least, 0) + 1
                self.assertEqual((paper[0], len(paper[1]), len(paper[2])), ("spare", least, least), (book, some))
                self.assertIs(judge_spare(book, some, entry[1], paper), True)
                right = plainreach.open_ways(book, some)
                self.assertTrue(all(way in right and way[-1] == entry[1] for way in paper[1]))
                feeds = [pair for way in paper[1] for pair in zip(way, way[1:])]
                self.assertEqual(len(feeds), len(set(feeds)))
        self.assertGreater(min(many[least] for least in range(4)), 5)


class JudgeSpareTest(unittest.TestCase):
    book = net("a>b", "b>d", "a>c", "c>d", "b>c", "d>a", "a>e", "d>e", ("e>d", "b"), ("a>d", "*", 9, 5), f="*,!a")
    ways = (("a", "b", "d"), ("a", "c", "d"))
    shut = (("a", "b"), ("a", "c"))

    def check(self, told, ways=ways, shut=shut, word="spare", size=6):
        self.assertIs(judge_spare(self.book, kind("a", size=size), "d", (word, ways, shut)), told, (ways, shut))

    def test_right_papers(self):
        self.check(True)
        self.check(True, shut=self.shut[::-1])
        self.check(True, ways=self.ways[::-1])
        self.check(True, shut=(("b", "d"), ("c", "d")))
        self.check(True, ways=(("a", "d"),) + self.ways, shut=(("a", "d"),) + self.shut, size=5)

    def test_numbers_of_pairs(self):
        self.check(False, shut=self.shut[:1])
        self.check(False, shut=self.shut + (("b", "d"),))
        self.check(False, shut=self.shut + self.shut[:1])
        self.check(False, shut=())
        self.check(False, ways=(), shut=())
        self.check(False, ways=())
        self.check(False, ways=self.ways[:1])
        self.check(False, ways=self.ways[:1], shut=self.shut[:1])

    def test_feeds_that_stand_twice(self):
        self.check(False, ways=(("a", "b", "d"), ("a", "b", "d")))
        self.check(False, ways=(("a", "b", "d"), ("a", "b", "c", "d")))
        self.check(False, ways=(("a", "c", "d"), ("a", "b", "c", "d")))
        self.check(False, ways=self.ways * 300)

    def test_ways_that_are_wrong(self):
        for way in ((), ("a",), ("d",), ("a", "c"), ("c", "d"), ("a", "b", "c"), ("a", "c", "d", "e"), ("a", "d"),
                    ("a", "e", "d"), ("a", "b", "d", "a", "c", "d"), ("a", "c", "d", "a"), ("a", "f", "d"),
                    ("a", "x", "d"), ("a", "", "d"), ("a",) * 600, ("b", "c", "d"), ("a", "c", "d", "d")):
            self.check(False, ways=(("a", "b", "d"), way))
            self.check(False, ways=(way, ("a", "b", "d")))
        self.check(False, ways=(("a", "d"),) + self.ways, shut=(("a", "d"),) + self.shut)

    def test_pairs_that_are_wrong(self):
        for pair in (("b", "a"), ("a", "e"), ("x", "y"), ("", ""), ("a", "d"), ("a", "f"), ("b", "c"), ("c", "a")):
            self.check(False, shut=(("a", "b"), pair))
            self.check(False, shut=(pair, ("c", "d")))
        self.check(False, shut=(("a", "b"), ("b", "d")))
        self.check(False, shut=(("a", "b"), ("a", "b")))
        self.check(True, shut=(("a", "b"), ("c", "d")))
        # Behind the one way another one is left open.
        self.check(False, shut=(("b", "d"), ("a", "c")))

    def test_an_open_way_that_no_pair_shuts(self):
        self.check(False, size=5)
        self.check(False, shut=(("a", "b"), ("a", "d")), ways=(("a", "b", "d"), ("a", "d")), size=5)

    def test_first_words(self):
        for word in ("", "Spare", "way", "spar", "x" * 700):
            self.check(False, word=word)
            for paper in ((word,), (word, None), (word, 1, 2, 3), (word, ((),), "x"), (word, self.ways, self.shut)):
                self.assertIs(judge_spare(self.book, kind("a"), "d", paper), False)

    def test_no_open_way(self):
        for book in (net("b>a"), net("a>b", a="b"), net("a>b", b="b"), net(("a>b", "b"))):
            self.assertIs(judge_spare(book, kind("a"), "b", ("spare", (), ())), True)
            self.assertIs(judge_spare(book, kind("a"), "b", ("spare", (("a", "b"),), (("a", "b"),))), False)
            self.assertIs(judge_spare(book, kind("a"), "b", ("spare", (), (("a", "b"),))), False)

    def test_by_the_meaning(self):
        chance = random.Random(26)
        for _ in range(150):
            book = plainreach.random_book(chance, most=4, patterns=("*", "*", "a*"))
            some = plainreach.random_kind(chance, book, most=4)
            site = chance.choice([entry[1] for entry in book[3] if entry[1] != some[1]])
            right = [way for way in plainreach.open_ways(book, some) if way[-1] == site]
            feeds = [entry[1:3] for entry in book[5]]
            for many in range(3):
                ways = tuple(chance.choices(right, k=many)) if right else ()
                shut = tuple(chance.choices(feeds, k=len(ways))) if feeds else ()
                pairs = [pair for way in ways for pair in zip(way, way[1:])]
                told = len(ways) == len(shut) and len(pairs) == len(set(pairs)) and all(
                    any(pair in shut for pair in zip(way, way[1:])) for way in right)
                self.assertIs(judge_spare(book, some, site, ("spare", ways, shut)), told)
