"""[41], [42]: posting, taking, numbers, what is hidden, queues and fewer hops, at a single site."""

import random
import unittest

from criermoot.notices import write_notice
from criermoot.sites import Site
from tests import drawn, drawndeeds, plainsites
from tests.sitecase import BODY, BOOK, changes, hiding, keys_for, post, posting, small_book, taken_by


class EmptySiteTest(unittest.TestCase):
    def test_empty(self):
        site = Site(BOOK, "mill")
        self.assertEqual(site.ledger.disk, ((), ()))
        self.assertEqual(site.known(), {})
        for told in (site.taken(), site.twice(), site.posted(), site.box("ann@mill"), site.told("ann@mill"), site.held("ann@mill"),
                     site.shown(0, "a"), site.items_for("hill"), site.clears_for("hill"), site.kept_from("hill")):
            self.assertEqual(told, ())
        self.assertIsNone(site.notice(("mill", 1)))
        self.assertEqual(site.since("a", 0), ("since", 0, ()))
        self.assertIs(site.decide(0, "ann@mill", ("mill", 1), ("pass",)), False)


class PostTest(unittest.TestCase):
    def test_post(self):
        site = Site(BOOK, "mill")
        self.assertEqual(site.post(5, "ann", ("a", "b"), "Fresh", (("hill", 3),), ("post",), BODY), ("mill", 1))
        whole = ("notice", ("mill", 1), "ann@mill", 5, ("a", "b"), "Fresh", (("hill", 3),), ("post",), (), BODY)
        self.assertEqual(site.notice(("mill", 1)), whole)
        self.assertEqual(site.known(), {("mill", 1): 0})
        self.assertEqual(site.taken(), ((("mill", 1), 0),))
        self.assertEqual(site.posted(), (whole,))
        self.assertEqual(site.shown(5, "a"), ((1, ("mill", 1)),))
        self.assertEqual(site.items_for("quay"), (("notice", "1@mill", 1, 5, write_notice(whole)),))

    def test_ids(self):
        site = Site(BOOK, "mill")
        for number in range(1, 5):
            self.assertEqual(site.post(*posting()), ("mill", number))
            site.take(5, 1, post(number + 7))
        self.assertEqual([notice[1][1] for notice in site.posted()], [1, 2, 3, 4])

    def test_a_board_that_the_site_does_not_carry(self):
        site = Site(BOOK, "mill")
        self.assertIsNone(site.post(*posting(boards=("no",))))
        self.assertEqual(site.ledger.disk, ((), ()))
        # The id is not used.
        self.assertEqual(site.post(*posting(boards=("no", "a"))), ("mill", 1))
        self.assertEqual(site.shown(5, "no"), ())
        self.assertEqual(site.shown(5, "a"), ((1, ("mill", 1)),))
        self.assertEqual(site.since("no", 0), ("since", 0, ()))

    def test_naming_what_is_not_on_the_shelf(self):
        for word in ("strike", "replace"):
            site = taken_by(BOOK, "mill", post(1))
            disk = site.ledger.disk
            for id in (("quay", 2), ("hill", 1), ("mill", 1)):
                self.assertIsNone(site.post(*posting(kind=(word, id))))
            self.assertIsNone(site.post(*posting(kind=(word, ("quay", 1)), boards=("no",))))
            self.assertEqual(site.ledger.disk, disk)
            self.assertEqual(site.post(*posting(kind=(word, ("quay", 1)))), ("mill", 1))
            self.assertEqual(site.notice(("mill", 1))[7], (word, ("quay", 1)))

    def test_naming_what_is_on_the_shelf_but_not_known(self):
        site = Site(small_book("mill>quay", memory=0), "mill")
        site.take(10, 1, post(1))
        site.tick(11)
        self.assertEqual(site.known(), {})
        self.assertEqual(site.post(*posting(11, "eve", kind=("replace", ("quay", 1)))), ("mill", 1))

    def test_naming_a_strike(self):
        site = taken_by(BOOK, "mill", post(1))
        site.post(*posting(kind=("strike", ("quay", 1))))
        for word in ("strike", "replace"):
            self.assertIsNotNone(site.post(*posting(kind=(word, ("mill", 1)))))
        self.assertEqual(site.shown(5, "a"), ((2, ("mill", 3)), (1, ("quay", 1))))


class TakeTest(unittest.TestCase):
    def test_take(self):
        site = Site(BOOK, "mill")
        self.assertIsNone(site.take(12, 2, post(1)))
        self.assertEqual(site.known(), {("quay", 1): 2})
        self.assertEqual(site.taken(), ((("quay", 1), 2),))
        self.assertEqual(site.posted(), ())
        self.assertEqual(site.notice(("quay", 1)), post(1))

    def test_known_belongs_to_the_caller(self):
        site = taken_by(BOOK, "mill", post(1))
        site.known().clear()
        self.assertEqual(site.known(), {("quay", 1): 1})

    def test_numbers(self):
        site = Site(BOOK, "mill")
        site.take(10, 1, post(1, boards=("a", "b")))
        site.take(10, 1, post(2, boards=("b", "no")))
        site.take(10, 1, post(3, kind=("strike", ("x", 1)), boards=("a",)))
        site.take(10, 1, post(4, boards=("c", "b", "a"), date=3))
        self.assertEqual(site.shown(10, "a"), ((2, ("quay", 4)), (1, ("quay", 1))))
        self.assertEqual(site.shown(10, "b"), ((3, ("quay", 4)), (1, ("quay", 1)), (2, ("quay", 2))))
        self.assertEqual(site.shown(10, "c"), ((1, ("quay", 4)),))
        self.assertEqual(site.shown(10, "no"), ())

    def test_order_of_what_is_shown(self):
        site = taken_by(BOOK, "mill", post(5, date=9), post(3), post(20), post(4, "ann@hill"))
        self.assertEqual([id for _, id in site.shown(10, "a")], [("quay", 5), ("hill", 4), ("quay", 3), ("quay", 20)])
        self.assertEqual([number for number, _ in site.shown(10, "a")], [1, 4, 2, 3])

    def test_hidden(self):
        for word in ("strike", "replace"):
            one, other = post(1, boards=("a", "b")), hiding(word, post(1), 2)
            new = ("new", 2, ("quay", 2))
            site = taken_by(BOOK, "mill", one, other)
            told = ((1, ("new", 1, ("quay", 1))), (1, new), (1, ("gone", 1)))
            self.assertEqual(changes(site, "a"), tuple(change for _, change in told if word == "replace" or change != new))
            self.assertEqual(changes(site, "b"), (("new", 1, ("quay", 1)), ("gone", 1)))
            self.assertEqual(site.shown(10, "a"), () if word == "strike" else ((2, ("quay", 2)),))
            self.assertEqual(site.shown(10, "b"), ())

    def test_marks_that_come_ahead(self):
        one = post(1, boards=("a", "b"))
        site = taken_by(BOOK, "mill", hiding("replace", one, 2), hiding("strike", one, 3, "bob@quay"), one)
        self.assertEqual(site.shown(10, "a"), ((1, ("quay", 2)),))
        self.assertEqual(changes(site, "a"), (("new", 1, ("quay", 2)), ("new", 2, ("quay", 1)), ("gone", 2)))
        self.assertEqual(changes(site, "b"), (("new", 1, ("quay", 1)), ("gone", 1)))
        # What has no right hides nothing.
        site = taken_by(BOOK, "mill", hiding("strike", one, 3, "bob@quay"), one, hiding("replace", one, 4, "bob@quay"))
        self.assertEqual([id for _, id in site.shown(10, "a")], [("quay", 1), ("quay", 4)])

    def test_what_is_hidden_hides(self):
        one = post(1)
        two = hiding("replace", one, 2)
        three = hiding("strike", two, 3)
        for order in ((one, two, three), (three, two, one), (two, three, one), (one, three, two), (three, one, two)):
            site = taken_by(BOOK, "mill", *order)
            self.assertEqual(site.shown(10, "a"), ())
        site = taken_by(BOOK, "mill", three, one, two)
        told = (("new", 1, ("quay", 1)), ("new", 2, ("quay", 2)), ("gone", 2), ("gone", 1))
        self.assertEqual(changes(site, "a"), told)

    def test_what_is_hidden_twice_is_gone_once(self):
        one = post(1)
        site = taken_by(BOOK, "mill", one, hiding("strike", one, 2), hiding("strike", one, 3))
        self.assertEqual(changes(site, "a"), (("new", 1, ("quay", 1)), ("gone", 1)))
        site = taken_by(BOOK, "mill", hiding("strike", one, 2), hiding("strike", one, 3), one)
        self.assertEqual(changes(site, "a"), (("new", 1, ("quay", 1)), ("gone", 1)))

    def test_terms_that_are_over(self):
        book = small_book("mill>quay", term=5)
        site = taken_by(book, "mill", post(1, date=5), post(2, date=4, boards=("a", "b")), post(3))
        told = (("new", 1, ("quay", 1)), ("new", 2, ("quay", 2)), ("gone", 2), ("new", 3, ("quay", 3)))
        self.assertEqual(changes(site, "a"), told)
        self.assertEqual(changes(site, "b"), (("new", 1, ("quay", 2)), ("gone", 1)))
        self.assertEqual(site.shown(10, "a"), ((1, ("quay", 1)), (3, ("quay", 3))))
        site.take(10, 1, hiding("strike", post(2), 4))
        self.assertEqual(changes(site, "a"), told)

    def test_strikes_by_stewards(self):
        book = small_book("mill>quay", stewards=(("steward", "a", "bob@hill", ()),), hill="*")
        one = post(1, boards=("b", "a"), seals=("bob@hill",))
        self.assertEqual(taken_by(book, "mill", one, hiding("strike", one, 2, "bob@hill")).shown(10, "b"), ())
        self.assertEqual(len(taken_by(book, "mill", one, hiding("replace", one, 2, "bob@hill")).shown(10, "b")), 1)


class QueueTest(unittest.TestCase):
    """The feed of mill to hill has the pattern *,!b, 3 hops and the size 4; that to dell a*, 2 hops."""

    def check(self, told, whole, hops=0):
        site = Site(BOOK, "mill")
        site.take(10, hops, whole)
        key = f"{whole[1][1]}@{whole[1][0]}"
        found = [name for name in ("ash", "dell", "hill", "quay") if keys_for(site, name) == [key]]
        self.assertEqual(" ".join(found), told)
        for name in found:
            self.assertEqual(site.items_for(name), (("notice", key, hops + 1, whole[3], write_notice(whole)),))

    def test_patterns(self):
        self.check("dell hill quay", post(1))
        self.check("quay", post(1, boards=("b",)))
        self.check("hill quay", post(1, boards=("c",)))
        self.check("dell hill quay", post(1, boards=("b", "a")))

    def test_hops(self):
        self.check("dell hill quay", post(1), 1)
        self.check("hill quay", post(1), 2)
        self.check("quay", post(1), 3)
        self.check("quay", post(1), 8)
        self.check("", post(1), 9)

    def test_sizes(self):
        self.check("dell hill quay", post(1, body=("text", "plain", ("",) * 3)))
        self.check("dell quay", post(1, body=("text", "plain", ("",) * 4)))

    def test_what_neighbours_carry(self):
        book = small_book("mill>quay", "mill>hill", quay="a", hill="b")
        self.assertEqual(keys_for(taken_by(book, "mill", post(1)), "quay"), ["1@quay"])
        self.assertEqual(keys_for(taken_by(book, "mill", post(1)), "hill"), [])

    def test_strikes_and_replacements(self):
        self.check("dell hill quay", post(1, kind=("strike", ("x", 1))))
        self.check("dell hill quay", post(1, kind=("replace", ("x", 1))))

    def test_order(self):
        site = taken_by(BOOK, "mill", post(3), post(1), post(2, "ann@hill"))
        self.assertEqual(keys_for(site, "quay"), ["3@quay", "1@quay", "2@hill"])
        site.post(*posting())
        self.assertEqual(keys_for(site, "quay"), ["3@quay", "1@quay", "2@hill", "1@mill"])


class NearTest(unittest.TestCase):
    def test_fewer_hops(self):
        site = taken_by(BOOK, "mill", post(1), post(2), hops=5)
        self.assertEqual(keys_for(site, "hill"), [])
        self.assertIsNone(site.near(11, ("quay", 1), 2))
        self.assertEqual(site.known(), {("quay", 1): 2, ("quay", 2): 5})
        self.assertEqual(site.taken(), ((("quay", 1), 2), (("quay", 2), 5)))
        self.assertEqual(site.twice(), ())
        # It is in the queue for quay already, and comes to the end of that for hill; for dell it has still too many.
        self.assertEqual([item[1:3] for item in site.items_for("quay")], [("1@quay", 3), ("2@quay", 6)])
        self.assertEqual([item[1:3] for item in site.items_for("hill")], [("1@quay", 3)])
        self.assertEqual(keys_for(site, "dell"), [])
        site.near(12, ("quay", 1), 1)
        self.assertEqual(keys_for(site, "dell"), ["1@quay"])

    def test_a_key_that_has_left_its_queue(self):
        site = taken_by(BOOK, "mill", post(1), post(2), hops=5)
        site.settle(11, "quay", "1@quay", "took", 5)
        self.assertEqual(keys_for(site, "quay"), ["2@quay"])
        site.near(11, ("quay", 1), 4)
        self.assertEqual(keys_for(site, "quay"), ["2@quay", "1@quay"])

    def test_what_changes_nothing(self):
        site = taken_by(BOOK, "mill", post(1), hops=3)
        disk = site.ledger.disk
        for id, hops in ((("quay", 1), 3), (("quay", 1), 4), (("quay", 2), 0)):
            self.assertIsNone(site.near(11, id, hops))
        self.assertEqual(site.known(), {("quay", 1): 3})
        self.assertEqual(site.ledger.disk, disk)

    def test_the_clock_of_taking_stays(self):
        site = Site(small_book("mill>quay", memory=10), "mill")
        site.take(10, 4, post(1))
        site.near(20, ("quay", 1), 3)
        site.tick(20)
        self.assertEqual(site.known(), {("quay", 1): 3})
        site.tick(21)
        self.assertEqual(site.known(), {})
        self.assertEqual(site.taken(), ((("quay", 1), 3),))


class SettleTest(unittest.TestCase):
    def check(self, told, result, hops, near=None):
        site = taken_by(BOOK, "mill", post(1), post(2), hops=5)
        if near is not None:
            site.near(11, ("quay", 1), near)
        disk = site.ledger.disk
        self.assertIsNone(site.settle(12, "quay", "1@quay", result, hops))
        self.assertEqual(keys_for(site, "quay"), told)
        self.assertEqual(site.ledger.disk == disk, "1@quay" in told)
        self.assertEqual(site.clears_for("quay"), ())

    def test_notices(self):
        for result in ("took", "have", "old"):
            self.check(["2@quay"], result, 5)
        self.check(["1@quay", "2@quay"], "spoilt", 5)

    def test_hops_that_have_become_fewer(self):
        for result in ("took", "have"):
            self.check(["1@quay", "2@quay"], result, 5, near=4)
            self.check(["2@quay"], result, 4, near=4)
        self.check(["2@quay"], "old", 5, near=4)
        self.check(["1@quay", "2@quay"], "spoilt", 5, near=4)

    def test_one_queue_only(self):
        site = taken_by(BOOK, "mill", post(1))
        site.settle(12, "quay", "1@quay", "took", 1)
        self.assertEqual((keys_for(site, "quay"), keys_for(site, "hill")), ([], ["1@quay"]))


class DrawnDeedsTest(unittest.TestCase):
    def test_against_a_plain_site(self):
        """Deeds of all kinds: a site tells of itself what a slow reading of the document tells."""
        many = {}
        for seed in range(60):
            chance = random.Random(seed)
            book = drawn.draw_book(chance)
            name = chance.choice(book[3])[1]
            site, plain, drawer = Site(book, name), plainsites.PlainSite(book, name), drawndeeds.Drawer(chance, book, name)
            for _ in range(40):
                deed = drawer.draw(site)
                many[deed[0]] = many.get(deed[0], 0) + 1
                self.assertEqual(getattr(site, deed[0])(*deed[1:]), getattr(plain, deed[0])(*deed[1:]))
                told = plainsites.told_by(site, drawer.neighbours, drawer.clock, drawn.BOARDS, drawer.addresses())
                self.assertEqual(told, plain.told(drawer.clock, drawn.BOARDS, drawer.addresses()))
                for whole in drawer.pool:
                    self.assertEqual(site.notice(whole[1]), whole if plain.record(whole[1]) else None)
        self.assertGreater(min(many.values()), 50)
