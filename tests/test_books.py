import unittest

from criermoot.books import (carries, feed_of, needed_seals, neighbours, policy_of, site_of, steward_of, wrong_part)
from tests.bookcase import BOOK, POLICY, book, feed, site


class WrongPartTest(unittest.TestCase):
    def right(self, **parts):
        self.assertIsNone(wrong_part(book(**parts)), parts)

    def wrong(self, part, *worths):
        for worth in worths:
            self.assertEqual(wrong_part(book(**{part: worth})), part, worth)

    def test_right_book(self):
        self.assertIsNone(wrong_part(BOOK))
        self.assertIsNone(wrong_part(BOOK))
        self.assertIsNone(wrong_part(("book", 1, (1, 1), (site(),), (), (), (), ())))

    def test_window(self):
        self.right(window=50)
        self.right(window=9999)
        self.wrong("window", 0, -1, 10000, 1000000, -1000000)
        sites = (site("hill", 1), site("mill"), site("quay"))
        self.right(window=1, sites=sites)

    def test_waits(self):
        for waits in ((1, 1), (1, 64), (64, 64), (7, 8)):
            self.right(waits=waits)
        self.wrong("waits", (0, 1), (0, 0), (2, 1), (1, 65), (65, 65), (-1, 5), (64, 63), (1, 0), (65, 64))

    def bent(self, entry, at=0):
        """The sites of the book with one put in place of another."""
        sites = BOOK[3]
        return sites[:at] + (entry,) + sites[at + 1:]

    def test_site_numbers(self):
        for entry in (site(offset=50), site(memory=0), site(memory=99999), site(term=0), site(term=99999)):
            self.right(sites=self.bent(entry))
        for entry in (site(offset=-1), site(offset=51), site(offset=1000), site(memory=-1), site(memory=100000),
                      site(term=-1), site(term=100000)):
            self.wrong("sites", self.bent(entry))
        self.right(window=9999, sites=self.bent(site(offset=999)))
        self.assertEqual(wrong_part(book(window=9999, sites=self.bent(site(offset=1000)))), "sites")
        self.assertEqual(wrong_part(book(window=49)), "sites")

    def test_site_names_and_patterns(self):
        for name in ("", "Hill", "hill.a", "abcdefghi", "1", "h@l", "x" * 700):
            self.wrong("sites", self.bent(site(name)))
        for pattern in ("", "!", "a,", "A", "a" * 61, "a,b,c,d,e,f,g,h,i"):
            self.wrong("sites", self.bent(site(pattern=pattern)))
        self.right(sites=self.bent(site(pattern="a" * 60)))
        self.wrong("sites", self.bent(site(), 1), BOOK[3] + (site(),))

    def test_many_sites(self):
        eight = tuple(site(f"s{k}") for k in range(8))
        nothing = {"lines": (), "feeds": (), "stewards": (), "lists": ()}
        self.right(sites=eight, **nothing)
        self.right(sites=eight[::-1], **nothing)
        self.assertEqual(wrong_part(book(sites=eight + (site("s8"),), **nothing)), "sites")
        self.assertEqual(wrong_part(book(sites=(), **nothing)), "sites")

    def test_lines(self):
        self.right(lines=(("hill", "mill"), ("hill", "quay"), ("mill", "quay")))
        self.wrong("lines", (("mill", "hill"), ("hill", "quay")), (("hill", "quay"), ("hill", "mill")),
                   (("hill", "mill"), ("hill", "mill")), (("hill", "hill"),), (("hill", "town"),), (("a", "hill"),),
                   (("hill", "mill"), ("hill", "quay"), ("quay", "mill")), (("", "hill"),),
                   (("hill", "mill"), ("hill", "quay"), ("hill", "quay")), (("hill", "mill"),) * 600)
        self.assertEqual(wrong_part(book(lines=())), "feeds")
        self.right(lines=(), feeds=())

    def test_many_lines(self):
        sites = tuple(site(f"s{k}") for k in range(8))
        lines = tuple((f"s{a}", f"s{b}") for a in range(8) for b in range(a + 1, 8))
        nothing = {"sites": sites, "feeds": (), "stewards": (), "lists": ()}
        self.right(lines=lines[:16], **nothing)
        self.assertEqual(wrong_part(book(lines=lines[:17], **nothing)), "lines")

    def test_feeds(self):
        for entry in (feed(hops=9), feed(size=99), feed("mill", "hill"), feed(pattern="a" * 60)):
            self.right(feeds=(entry,))
        self.right(feeds=())
        for entry in (feed(hops=0), feed(hops=10), feed(hops=-1), feed(size=0), feed(size=100), feed(pattern=""),
                      feed(pattern="a,"), feed("mill", "quay"), feed("hill", "hill"), feed("hill", "town"),
                      feed("town", "hill"), feed("", "hill"), feed("quay", "mill")):
            self.wrong("feeds", (entry,), (feed("quay", "hill"), entry))
        self.wrong("feeds", (feed(), feed()), (feed(), feed(pattern="a", hops=3, size=5)),
                   (feed(), feed("mill", "hill"), feed()))
        self.right(feeds=(feed(), feed("mill", "hill")))

    def test_many_feeds(self):
        sites = tuple(site(f"s{k}") for k in range(8))
        lines = tuple((f"s{a}", f"s{b}") for a in range(8) for b in range(a + 1, 8))[:16]
        feeds = tuple(feed(*pair) for line in lines for pair in (line, line[::-1]))
        nothing = {"sites": sites, "lines": lines, "stewards": (), "lists": ()}
        self.right(feeds=feeds[:24], **nothing)
        self.assertEqual(wrong_part(book(feeds=feeds[:25], **nothing)), "feeds")

    def test_stewards(self):
        self.right(stewards=())
        six = tuple(("steward", "*", f"a{k}@hill", ()) for k in range(6))
        self.right(stewards=six)
        self.wrong("stewards", six + (("steward", "*", "b@hill", ()),), six[:2] + six[:1],
                   (("steward", "a", "ann@mill", ()), ("steward", "b", "ann@mill", POLICY)))
        for address in ("", "ann", "ann@town", "Ann@mill", "@mill", "ann@mill@hill"):
            self.wrong("stewards", (("steward", "*", address, ()),))
        for pattern in ("", "!", "A", "a" * 61):
            self.wrong("stewards", (("steward", pattern, "ann@mill", ()),))

    def policies(self, policy):
        return (("steward", "*", "dan@mill", policy),)

    def test_many_rules(self):
        self.right(stewards=self.policies(((("any",), ("pass",)),) * 12))
        self.wrong("stewards", self.policies(((("any",), ("pass",)),) * 13))

    def test_verdicts(self):
        for verdict in (("pass",), ("hold",), ("refuse", "fish"), ("refuse", "a2345678"), ("send", "a@b")):
            self.right(stewards=self.policies(((("any",), verdict),)))
        for verdict in (("refuse", ""), ("refuse", "Fish"), ("refuse", "abcdefghi"), ("send", "ann"), ("send", ""),
                        ("send", "ann@mill@a"), ("refuse", "a@b")):
            self.wrong("stewards", self.policies(((("any",), verdict),)), self.policies(POLICY + ((("any",), verdict),)))

    def test_tests(self):
        right = (("any",), ("answer",), ("strike",), ("replace",), ("board", "a,!b.*"), ("from", "ann", "town"),
                 ("from", "*", "*"), ("from", "ann", "*"), ("from", "*", "town"), ("word", "fish2"),
                 ("over", 0), ("over", 60), ("sealed", "a@b"))
        wrong = (("board", ""), ("board", "a,"), ("board", "A"), ("board", "a" * 61), ("from", "", "mill"),
                 ("from", "ann", ""), ("from", "Ann", "*"), ("from", "**", "*"), ("from", "*", "a.b"),
                 ("from", "*", "abcdefghi"), ("word", ""), ("word", "Fish"), ("word", "*"), ("word", "2fish"),
                 ("word", "abcdefghi"), ("over", -1), ("over", 61), ("over", 1000000), ("sealed", ""),
                 ("sealed", "ann"), ("sealed", "*@mill"), ("sealed", "Ann@mill"))
        for test in right:
            for whole in self.around(test):
                self.right(stewards=self.policies(((whole, ("pass",)),)))
        for test in wrong:
            for whole in self.around(test):
                self.wrong("stewards", self.policies(((whole, ("pass",)),)))

    def around(self, test):
        any_test = ("any",)
        deep = test
        for _ in range(14):
            deep = ("not", deep)
        return (test, ("not", test), ("and", any_test, test), ("and", test, any_test), ("or", any_test, test),
                ("or", test, any_test), ("not", ("or", ("and", any_test, ("not", test)), any_test)), deep)

    def test_lists(self):
        self.right(lists=())
        for entry in (("list", "x@hill", None, ()), ("list", "x@hill", "a" * 600, ()),
                      ("list", "x@hill", "a", tuple(f"p{k}@quay" for k in range(8))),
                      ("list", "x@hill", None, ("x@hill", "ann@mill"))):
            self.right(lists=(entry,))
        for entry in (("list", "", None, ()), ("list", "x", None, ()), ("list", "x@town", None, ()),
                      ("list", "X@hill", None, ()), ("list", "x@hill", "", ()), ("list", "x@hill", "A", ()),
                      ("list", "x@hill", "a" * 601, ()), ("list", "x@hill", "a..b", ()),
                      ("list", "x@hill", None, tuple(f"p{k}@quay" for k in range(9))),
                      ("list", "x@hill", None, ("a@hill", "a@hill")), ("list", "x@hill", None, ("a@town",)),
                      ("list", "x@hill", None, ("a",)), ("list", "x@hill", None, ("",)),
                      ("list", "x@hill", None, ("b@hill", "A@hill")), ("list", "ann@mill", None, ()),
                      ("list", "cid@hill", "a", ())):
            self.wrong("lists", (entry,), BOOK[7] + (entry,))

    def test_lists_side_by_side(self):
        five = tuple(("list", f"x{k}@hill", None, ()) for k in range(5))
        self.right(lists=five)
        self.wrong("lists", five + (("list", "y@hill", "a", ()),), five[:2] + five[:1],
                   (("list", "x@hill", "a", ()), ("list", "x@hill", "b", ())),
                   (("list", "x@hill", "a", ()), ("list", "x@hill", None, ())),
                   (("list", "x@hill", "a", ()), ("list", "y@hill", "a", ())))
        self.right(lists=(("list", "x@hill", "a", ()), ("list", "y@hill", "b", ())))
        self.right(lists=(("list", "x@hill", "a", ()), ("list", "x@mill", "a", ())))
        self.right(lists=(("list", "x@hill", "a", ()), ("list", "y@hill", None, ())))
        self.right(stewards=(), lists=(("list", "ann@mill", None, ()),))

    def test_first_wrong_part(self):
        worths = (("window", 0), ("waits", (2, 1)), ("sites", (site("Hill"),)), ("lines", (("mill", "hill"),)),
                  ("feeds", (feed(hops=0),)), ("stewards", (("steward", "", "a@hill", ()),)),
                  ("lists", (("list", "x", None, ()),)))
        for number in range(len(worths)):
            self.assertEqual(wrong_part(book(**dict(worths[number:]))), worths[number][0])
            for other in range(number + 1, len(worths)):
                both = dict([worths[number], worths[other]])
                self.assertEqual(wrong_part(book(**both)), worths[number][0])


class AskedTest(unittest.TestCase):
    def test_sites(self):
        self.assertEqual(site_of(BOOK, "mill"), BOOK[3][1])
        self.assertEqual(site_of(BOOK, "quay"), BOOK[3][2])
        for name in ("town", "", "mil", "ann@mill"):
            self.assertIsNone(site_of(BOOK, name))

    def test_feeds(self):
        self.assertEqual(feed_of(BOOK, "hill", "mill"), BOOK[5][0])
        self.assertEqual(feed_of(BOOK, "mill", "hill"), BOOK[5][1])
        self.assertEqual(feed_of(BOOK, "quay", "hill"), BOOK[5][2])
        for giver, taker in (("hill", "quay"), ("mill", "quay"), ("hill", "hill"), ("town", "hill"), ("hill", "town")):
            self.assertIsNone(feed_of(BOOK, giver, taker))

    def test_neighbours(self):
        self.assertEqual(neighbours(BOOK, "hill"), ("mill", "quay"))
        self.assertEqual(neighbours(BOOK, "mill"), ("hill",))
        self.assertEqual(neighbours(BOOK, "quay"), ("hill",))
        self.assertEqual(neighbours(BOOK, "town"), ())
        self.assertEqual(neighbours(book(lines=()), "hill"), ())
        lines = (("a", "m"), ("b", "m"), ("m", "n"), ("m", "z"), ("n", "z"))
        self.assertEqual(neighbours(book(lines=lines), "m"), ("a", "b", "n", "z"))
        self.assertEqual(neighbours(book(lines=(("b", "m"), ("m", "z"), ("m", "zz"))), "m"), ("b", "z", "zz"))

    def test_carries(self):
        self.assertIs(carries(BOOK, "hill", ("x",)), True)
        self.assertIs(carries(BOOK, "quay", ("x",)), False)
        self.assertIs(carries(BOOK, "quay", ("x", "y")), True)
        self.assertIs(carries(BOOK, "mill", ("town",)), False)
        self.assertIs(carries(BOOK, "mill", ("town", "town.fish", "a")), True)
        self.assertIs(carries(BOOK, "mill", ("a", "b", "c")), False)
        self.assertIs(carries(BOOK, "town", ("a",)), False)

    def test_stewards(self):
        self.assertEqual(steward_of(BOOK, "town.sale"), "ann@mill")
        self.assertEqual(steward_of(BOOK, "town.sales.x"), "ann@mill")
        self.assertEqual(steward_of(BOOK, "town.fish"), "bob@hill")
        self.assertEqual(steward_of(BOOK, "town.x"), "bob@hill")
        self.assertEqual(steward_of(BOOK, "a.x"), "cid@hill")
        self.assertIsNone(steward_of(BOOK, "town"))
        self.assertIsNone(steward_of(book(stewards=()), "town.sale"))

    def test_needed_seals(self):
        for boards, seals in (
                (("a",), ()), (("town.sale",), ("ann@mill",)), (("town.fish", "town.sale"), ("bob@hill", "ann@mill")),
                (("town.sale", "town.fish"), ("ann@mill", "bob@hill")),
                (("town.fish", "a", "town.x"), ("bob@hill",)), (("a.x", "b.x", "town.sale"), ("cid@hill", "ann@mill")),
                (("town.sale", "b.x", "town.sales"), ("ann@mill", "cid@hill"))):
            self.assertEqual(needed_seals(BOOK, boards), seals)
            self.assertIs(type(needed_seals(BOOK, boards)), tuple)

    def test_policies(self):
        self.assertEqual(policy_of(BOOK, "ann@mill"), POLICY)
        self.assertEqual(policy_of(BOOK, "bob@hill"), ())
        self.assertEqual(policy_of(BOOK, "cid@hill"), ((("any",), ("hold",)),))
        for address in ("ann@hill", "all@mill", "", "ann"):
            self.assertIsNone(policy_of(BOOK, address))
