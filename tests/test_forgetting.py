"""[44], [54]: what a site forgets at its ticks, and what is gone then."""

import unittest

from criermoot.sites import Site
from criermoot.stories import Desk
from tests.sitecase import changes, hiding, keys_for, post, posting, small_book, taken_by

ONE = ("quay", 1)


class KnownTest(unittest.TestCase):
    def test_at_the_edge_of_the_memory(self):
        for memory in (0, 1, 7):
            site = Site(small_book("mill>quay", memory=memory), "mill")
            site.take(12, 1, post(1))
            for clock in range(12, 12 + memory + 1):
                site.tick(clock)
                self.assertEqual(site.known(), {ONE: 1})
            self.assertIsNone(site.tick(12 + memory + 1))
            self.assertEqual(site.known(), {})
            # What it has ever taken is not forgotten.
            self.assertEqual((site.taken(), site.twice()), (((ONE, 1),), ()))

    def test_each_in_its_time(self):
        site = Site(small_book("mill>quay", memory=5), "mill")
        site.take(10, 1, post(1))
        site.take(12, 1, post(2))
        site.post(*posting(13))
        site.tick(16)
        self.assertEqual(site.known(), {("quay", 2): 1, ("mill", 1): 0})
        site.tick(18)
        self.assertEqual(site.known(), {("mill", 1): 0})
        site.tick(19)
        self.assertEqual(site.known(), {})
        self.assertEqual([whole[1] for whole in site.posted()], [("mill", 1)])

    def test_nothing_is_forgotten_without_a_tick(self):
        site = Site(small_book("mill>quay", memory=5), "mill")
        site.take(10, 1, post(1))
        site.take(99, 1, post(2))
        self.assertEqual(sorted(site.known()), [ONE, ("quay", 2)])

    def test_marks(self):
        """A strike that is not known any more hides nothing that comes."""
        for clock, told in ((15, []), (16, [ONE])):
            site = Site(small_book("mill>quay", memory=5), "mill")
            site.take(10, 1, hiding("strike", post(1), 2))
            site.tick(clock)
            site.take(clock, 1, post(1))
            self.assertEqual([id for _, id in site.shown(clock, "a")], told)

    def test_hidden_stays_hidden(self):
        site = taken_by(small_book("mill>quay", memory=5), "mill", post(1), hiding("strike", post(1), 2))
        site.tick(16)
        self.assertEqual((site.known(), site.shown(16, "a")), ({}, ()))


class ShelfTest(unittest.TestCase):
    def check(self, clock, told, memory=5, term=8, queued=False):
        """Whether a notice with the date 10 that was taken at the clock 12 is on the shelf behind a tick."""
        site = Site(small_book("mill>quay", memory=memory, term=term), "mill")
        site.take(12, 1, post(1))
        if not queued:
            site.settle(12, "quay", "1@quay", "took", 1)
        site.tick(clock)
        self.assertEqual(site.notice(ONE) is not None, told)
        return site

    def test_the_edge_of_the_memory(self):
        self.check(17, True, term=0)
        self.check(18, False, term=0)

    def test_the_edge_of_the_term(self):
        self.check(18, True, memory=0)
        self.check(19, False, memory=0)
        self.check(18, True)
        self.check(19, False)

    def test_queues(self):
        site = self.check(99, True, queued=True)
        self.assertEqual(site.known(), {})
        self.assertEqual(keys_for(site, "quay"), ["1@quay"])
        site.settle(99, "quay", "1@quay", "old", 1)
        self.assertIsNotNone(site.notice(ONE))
        many = len(site.ledger.contents())
        site.tick(99)
        self.assertIsNone(site.notice(ONE))
        self.assertEqual(len(site.ledger.contents()), many + 1)

    def test_shown_as_long_as_the_term(self):
        site = self.check(18, True, memory=0)
        self.assertEqual(site.shown(18, "a"), ((1, ONE),))
        self.assertEqual(site.shown(19, "a"), ())

    def test_hidden_ones_leave_it(self):
        """What left the shelf is not hidden when it comes again and what hid it is forgotten."""
        site = taken_by(small_book("mill>quay", memory=2, term=3), "mill", post(1), hiding("strike", post(1), 2))
        for key in ("1@quay", "2@quay"):
            site.settle(10, "quay", key, "took", 1)
        site.tick(14)
        self.assertIsNone(site.notice(ONE))
        site.take(14, 2, post(1, date=13))
        self.assertEqual(site.shown(14, "a"), ((2, ONE),))
        self.assertEqual(site.twice(), (ONE,))
        self.assertEqual(site.taken(), ((ONE, 1), (("quay", 2), 1)))

    def test_taken_again_while_it_is_in_a_queue(self):
        site = Site(small_book("mill>quay", memory=2), "mill")
        site.take(10, 3, post(1))
        site.take(10, 3, post(2))
        site.tick(13)
        site.take(13, 4, post(1))
        self.assertEqual(keys_for(site, "quay"), ["1@quay", "2@quay"])
        self.assertEqual((site.twice(), site.taken()), ((ONE,), ((ONE, 3), (("quay", 2), 3))))
        self.assertEqual(site.known(), {ONE: 4})


class TickTest(unittest.TestCase):
    def test_a_tick_that_changes_nothing_writes_nothing(self):
        site = Site(small_book("mill>quay"), "mill")
        site.tick(3)
        self.assertEqual(site.ledger.disk, ((), ()))
        site.take(10, 1, post(1))
        disk = site.ledger.disk
        for clock in (10, 20, 70):
            site.tick(clock)
        self.assertEqual(site.ledger.disk, disk)
        site.tick(71)
        self.assertEqual(len(site.ledger.contents()), 2)
        site.tick(72)
        self.assertEqual(len(site.ledger.contents()), 2)

    def test_gone_at_a_tick(self):
        site = Site(small_book("mill>quay", term=5), "mill")
        for number, date, boards in ((1, 12, ("a", "b")), (2, 10, ("a",)), (3, 11, ("b", "a")), (4, 10, ("a",)), (5, 20, ("a",))):
            site.take(12, 1, post(number, date=date, boards=boards))
        site.tick(15)
        self.assertEqual(changes(site, "a", 5), ())
        disk = site.ledger.disk
        site.tick(16)
        self.assertEqual(changes(site, "a", 5), (("gone", 2), ("gone", 4)))
        self.assertNotEqual(site.ledger.disk, disk)
        self.assertEqual(changes(site, "b", 2), ())
        # Several that are gone at one tick are gone in the order of their numbers, not of their dates.
        site.tick(19)
        self.assertEqual(changes(site, "a", 7), (("gone", 1), ("gone", 3)))
        self.assertEqual(changes(site, "b", 2), (("gone", 1), ("gone", 2)))
        site.tick(25)
        self.assertEqual(changes(site, "a", 9), ())
        site.tick(26)
        self.assertEqual(changes(site, "a", 9), (("gone", 5),))

    def test_what_is_hidden_is_not_gone_again(self):
        site = taken_by(small_book("mill>quay", term=5), "mill", post(1), hiding("strike", post(1), 2))
        site.tick(16)
        self.assertEqual(changes(site, "a"), (("new", 1, ONE), ("gone", 1)))

    def test_stories_have_the_limit_20(self):
        site = Site(small_book("mill>quay"), "mill")
        desk = Desk()
        for number in range(1, 21):
            site.take(10, 1, post(number))
        self.assertEqual(site.since("a", 0)[0], "since")
        site.take(10, 1, hiding("strike", post(3), 30))
        self.assertEqual(site.since("a", 1)[0], "since")
        told = site.since("a", 0)
        self.assertEqual(told[:2], ("whole", 21))
        self.assertEqual([number for number, _ in told[2]], [number for number in range(1, 21) if number != 3])
        desk.hear(told)
        self.assertEqual(dict(desk.view), {number: id for number, id in site.shown(10, "a")})
