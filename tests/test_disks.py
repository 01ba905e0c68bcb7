"""[45]: each deed fallen behind each number of its writes, waking, and renewing."""

import random
import unittest

from criermoot.errors import Fallen
from criermoot.journal import added, renewed
from criermoot.letters import note_to, submission
from criermoot.sites import Site
from tests import drawn, drawndeeds, plainsites
from tests.sitecase import ANY, hiding, post, posting, small_book

BOARDS = ("a", "b")
BOOK = small_book("mill>quay", "quay>mill", "hill>mill", "mill>hill", memory=8, term=6,
                  stewards=(("steward", "b", "st@mill", ((ANY, ("hold",)),)),), lists=(("list", "l@mill", "a", ("bob@mill", "bob@hill")),))
HELD = post(9, boards=("b",))
# A row of deeds that all change something, and of which each falls in turn.
DEEDS = (
    ("post",) + posting(10, "ann", ("a", "b")), ("post",) + posting(10, "ann", ("a",)), ("take", 10, 5, post(1, date=8)),
    ("near", 10, ("quay", 1), 2), ("keep", 11, "quay", "s:9@quay:0:0", submission(BOOK, HELD)),
    ("settle", 11, "hill", "2@mill", "took", 0), ("settle", 11, "hill", "c:2@mill:l@mill:bob@hill", "have", 0),
    ("settle", 12, "hill", "c:2@mill:l@mill:bob@hill", "cleared", 0), ("decide", 12, "st@mill", ("quay", 9), ("pass",)),
    ("cleared", "quay", "s:9@quay:0:0"), ("tick", 15), ("take", 15, 3, hiding("strike", post(2, "ann@mill"), 7)), ("tick", 20),
    ("keep", 20, "hill", "n:1@mill", note_to(post(1, "ann@mill"), ("refused", "late"))), ("tick", 27), ("post",) + posting(27),
)
ADDRESSES = ("bob@mill", "ann@mill", "st@mill")


def state(site, clock):
    """All that a site tells of itself."""
    told = plainsites.told_by(site, ("hill", "quay"), clock, BOARDS, ADDRESSES)
    told["posted"] = site.posted()
    ids = [("mill", number) for number in (1, 2, 3, 7)] + [("quay", number) for number in (1, 2, 9)]
    told["shelf"] = [site.notice(id) for id in ids]
    return told


def do(site, deed):
    return getattr(site, deed[0])(*deed[1:])


def played(deeds):
    """A site that has done some deeds."""
    site = Site(BOOK, "mill")
    for deed in deeds:
        do(site, deed)
    return site


def asleep(site, clock=0):
    """What a site tells that is made of the same disk and forgets nothing."""
    return Site.woken(BOOK, "mill", site.ledger.disk, clock)


class FallTest(unittest.TestCase):
    def test_each_deed_writes_once(self):
        site = Site(BOOK, "mill")
        for many, deed in enumerate(DEEDS):
            before = state(site, 12)
            do(site, deed)
            self.assertEqual(len(site.ledger.contents()), many + 1)
            self.assertNotEqual(state(site, 12), before)
            self.assertEqual(state(asleep(site), 12), state(site, 12))

    def test_each_fall_of_each_deed(self):
        for many, deed in enumerate(DEEDS):
            before = played(DEEDS[:many])
            after = played(DEEDS[:many + 1])
            writes = added(before.ledger.disk, after.ledger.contents()[-1])
            for count in list(range(len(writes))) + [len(writes), len(writes) + 5]:
                for torn in (0, 1):
                    site = played(DEEDS[:many])
                    site.ledger.trip(count, torn)
                    self.assertRaises(Fallen, do, site, deed)
                    done = count >= len(writes)
                    self.assertEqual(state(site, 12), state(after if done else before, 12))
                    # It wakes with the tables of its disk, and does what comes next.
                    site = asleep(site)
                    self.assertEqual(state(site, 12), state(after if done else before, 12))
                    if not done:
                        do(site, deed)
                    self.assertEqual(state(site, 12), state(after, 12))
                    self.assertEqual(state(asleep(site), 12), state(after, 12))

    def test_a_deed_that_changes_nothing_leaves_a_trip(self):
        site = played(DEEDS[:4])
        site.ledger.trip(0, 0)
        site.tick(10)
        site.near(10, ("quay", 1), 4)
        site.cleared("quay", "n:9@mill")
        self.assertIsNone(site.post(*posting(kind=("strike", ("quay", 7)))))
        self.assertIs(site.decide(10, "st@mill", ("quay", 9), ("pass",)), False)
        self.assertRaises(Fallen, site.tick, 30)


class WakeTest(unittest.TestCase):
    def test_forgets_as_at_a_tick(self):
        site = played(DEEDS[:4])
        self.assertEqual(sorted(site.known()), [("mill", 2), ("quay", 1)])
        for clock in (10, 14, 15, 18, 19, 99):
            woken = Site.woken(BOOK, "mill", site.ledger.disk, clock)
            ticked = played(DEEDS[:4] + (("tick", clock),))
            self.assertEqual(state(woken, clock), state(ticked, clock))
            self.assertEqual(woken.ledger.disk, ticked.ledger.disk)
        self.assertEqual(len(Site.woken(BOOK, "mill", site.ledger.disk, 10).ledger.contents()), 4)
        self.assertEqual(len(Site.woken(BOOK, "mill", site.ledger.disk, 15).ledger.contents()), 5)

    def test_an_empty_disk(self):
        site = Site.woken(BOOK, "mill", ((), ()), 40)
        self.assertEqual(state(site, 40), state(Site(BOOK, "mill"), 40))
        self.assertEqual(site.ledger.disk, ((), ()))
        self.assertEqual(site.post(*posting(40)), ("mill", 1))

    def test_sites_are_apart(self):
        site = played(DEEDS[:4])
        woken = asleep(site)
        woken.take(12, 1, post(5))
        self.assertNotIn(("quay", 5), site.known())


class RenewTest(unittest.TestCase):
    def test_behind_each_deed(self):
        for many in range(len(DEEDS) + 1):
            site, other = played(DEEDS[:many]), played(DEEDS[:many])
            self.assertIsNone(site.renew())
            self.assertEqual(len(site.ledger.contents()), 1)
            self.assertEqual(state(site, 12), state(other, 12))
            woken = asleep(site)
            self.assertEqual(state(woken, 12), state(other, 12))
            # What comes behind is the same, too.
            for deed in DEEDS[many:]:
                self.assertEqual(do(woken, deed), do(other, deed))
                self.assertEqual(state(woken, 12), state(other, 12))
            self.assertEqual(len(woken.ledger.contents()), 1 + len(DEEDS) - many)

    def test_each_fall_of_a_renewal(self):
        for many in (0, 1, 6, len(DEEDS)):
            whole = played(DEEDS[:many])
            whole.renew()
            base = played(DEEDS[:many])
            writes = renewed(base.ledger.disk, whole.ledger.contents())
            for count in range(len(writes) + 2):
                for torn in (0, 1):
                    site = played(DEEDS[:many])
                    site.ledger.trip(count, torn)
                    self.assertRaises(Fallen, site.renew)
                    self.assertEqual(state(site, 12), state(base, 12))
                    self.assertEqual(len(site.ledger.contents()), 1 if count >= len(writes) else many)
                    self.assertEqual(state(asleep(site), 12), state(base, 12))
                    site.renew()
                    self.assertEqual(state(asleep(site), 12), state(base, 12))

    def test_long_stories(self):
        site = Site(BOOK, "mill")
        for number in range(1, 15):
            site.take(10, 1, post(number, boards=("a", "b")))
            site.take(10, 1, hiding("strike", post(number), number + 50))
        site.renew()
        self.assertEqual(site.since("a", 7)[0], "whole")
        self.assertEqual(state(asleep(site), 10), state(site, 10))


class DrawnTest(unittest.TestCase):
    def test_drawn_deeds(self):
        """Deeds with falls, renewals and waking in between: the tables are always those of the disk."""
        falls = 0
        for seed in range(25):
            chance = random.Random(4500 + seed)
            book = drawn.draw_book(chance)
            name = chance.choice(book[3])[1]
            site, plain, drawer = Site(book, name), plainsites.PlainSite(book, name), drawndeeds.Drawer(chance, book, name)
            for _ in range(30):
                deed = drawer.draw(site)
                told = plainsites.told_by(site, drawer.neighbours, drawer.clock, drawn.BOARDS, drawer.addresses())
                while chance.random() < 0.3:
                    # It falls ahead of the last of the writes, which can be those of a renewal.
                    site.ledger.trip(chance.randrange(2), chance.randrange(2))
                    try:
                        (site.renew if chance.random() < 0.3 else lambda: do(site, deed))()
                    except Fallen:
                        falls += 1
                    fallen = plainsites.told_by(site, drawer.neighbours, drawer.clock, drawn.BOARDS, drawer.addresses())
                    self.assertEqual(fallen, told)
                    site = Site.woken(book, name, site.ledger.disk, -1000)
                if chance.random() < 0.1:
                    site.renew()
                self.assertEqual(do(site, deed), do(plain, deed))
                told = plainsites.told_by(site, drawer.neighbours, drawer.clock, drawn.BOARDS, drawer.addresses())
                self.assertEqual(told, plain.told(drawer.clock, drawn.BOARDS, drawer.addresses()))
        self.assertGreater(falls, 100)
