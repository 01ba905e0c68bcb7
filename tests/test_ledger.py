import random
import unittest

from criermoot.errors import BadWord, Fallen, MootError
from criermoot.journal import added, content, renewed, written
from criermoot.ledger import Ledger
from tests import plainvalues
from tests.plainvalues import blocks

EMPTY = ((), ())
LONG = "x" * 90


class LedgerTest(unittest.TestCase):
    def test_empty_ledger(self):
        ledger = Ledger()
        self.assertEqual(ledger.disk, EMPTY)
        self.assertEqual(ledger.contents(), ())
        self.assertIsNone(ledger.add(7))
        self.assertEqual(ledger.contents(), (7,))
        self.assertEqual(ledger.disk, written(EMPTY, added(EMPTY, 7), 4))
        self.assertIsNone(ledger.renew((1, 2)))
        self.assertEqual(ledger.contents(), (1, 2))
        self.assertEqual(Ledger().disk, EMPTY)

    def test_given_disk(self):
        disk = written(EMPTY, added(EMPTY, LONG), 9)
        ledger = Ledger(disk)
        self.assertEqual(ledger.contents(), (LONG,))
        ledger.add(1)
        self.assertEqual(ledger.disk, written(disk, added(disk, 1), 9))
        self.assertEqual(content(disk), (LONG,))
        self.assertEqual(Ledger(disk=disk).disk, disk)

    def test_same_writes_as_a_journal(self):
        """Additions, renewals and falls, one behind another, leave the disks that the journal tells."""
        chance = random.Random(45)
        for _ in range(80):
            ledger, disk = Ledger(), EMPTY
            for _ in range(25):
                value = plainvalues.random_value(chance, depth=2)
                renewing = chance.random() < 0.3
                writes = renewed(disk, (value,)) if renewing else added(disk, value)
                count, torn = len(writes), 0
                falls = chance.random() < 0.4
                if falls:
                    count, torn = chance.randrange(len(writes) + 3), chance.randrange(2)
                    self.assertIsNone(ledger.trip(count, torn))
                disk = written(disk, writes, count, torn)
                try:
                    told = ledger.renew((value,)) if renewing else ledger.add(value)
                    self.assertIsNone(told)
                    self.assertFalse(falls)
                except Fallen:
                    self.assertTrue(falls)
                self.assertEqual(ledger.disk, disk)
                self.assertEqual(ledger.contents(), content(disk))

    def test_disks_on_which_blocks_go_on(self):
        """Blocks that stand behind the deed that is added can count from then on."""
        area = blocks(1, 0, ()) + (None, None) + blocks(1, 2, "old") + blocks(1, 3, 4)
        ledger, disk = Ledger((area, ())), (area, ())
        self.assertEqual(ledger.contents(), ())
        for value, told in ((1, (1, "old", 4)), (2, (1, "old", 4, 2))):
            disk = written(disk, added(disk, value), 9)
            ledger.add(value)
            self.assertEqual(ledger.disk, disk)
            self.assertEqual(ledger.contents(), told)
        other = (None, None) + blocks(2, 1, "old")
        disk = (blocks(1, 0, (5,)), other)
        ledger = Ledger(disk)
        ledger.renew((6,))
        self.assertEqual(ledger.contents(), (6, "old"))
        ledger.add(7)
        self.assertEqual(ledger.contents(), (6, "old", 7))

    def test_disk_is_a_property(self):
        self.assertIsInstance(Ledger.disk, property)
        ledger = Ledger()
        ledger.add(1)
        disk = ledger.disk
        ledger.add(2)
        ledger.disk = disk
        self.assertEqual(ledger.contents(), (1,))
        ledger.add(3)
        self.assertEqual(ledger.contents(), (1, 3))
        ledger.disk = EMPTY
        ledger.renew((9,))
        self.assertEqual(ledger.disk, written(EMPTY, renewed(EMPTY, (9,)), 9))


class TripTest(unittest.TestCase):
    def test_each_fall(self):
        for begun in ((), (5,), (LONG, None)):
            base = Ledger()
            for value in begun:
                base.add(value)
            for name, writes, new in (("add", added(base.disk, LONG), begun + (LONG,)),
                                      ("renew", renewed(base.disk, (LONG,)), (LONG,))):
                for count in range(len(writes) + 3):
                    for torn in (0, 1):
                        ledger = Ledger(base.disk)
                        ledger.trip(count, torn)
                        with self.assertRaises(Fallen) as caught:
                            ledger.add(LONG) if name == "add" else ledger.renew((LONG,))
                        self.assertIsInstance(caught.exception, MootError)
                        self.assertEqual(ledger.disk, written(base.disk, writes, count, torn))
                        self.assertEqual(ledger.contents(), new if count >= len(writes) else begun)

    def test_a_trip_counts_once(self):
        ledger = Ledger()
        ledger.trip(0, 0)
        with self.assertRaises(Fallen):
            ledger.add(1)
        ledger.add(2)
        ledger.renew((3,))
        self.assertEqual(ledger.contents(), (3,))

    def test_a_further_trip_takes_its_place(self):
        ledger = Ledger()
        ledger.trip(0, 0)
        ledger.trip(9, 1)
        with self.assertRaises(Fallen):
            ledger.add(1)
        self.assertEqual(ledger.contents(), (1,))
        ledger.add(2)
        self.assertEqual(ledger.contents(), (1, 2))

    def test_an_assigned_disk_takes_it_away(self):
        ledger = Ledger()
        ledger.trip(0, 1)
        ledger.disk = ledger.disk
        ledger.add(1)
        self.assertEqual(ledger.contents(), (1,))

    def test_asking_leaves_it(self):
        ledger = Ledger()
        ledger.trip(0, 1)
        self.assertEqual(ledger.contents(), ())
        self.assertEqual(ledger.disk, EMPTY)
        self.assertEqual(ledger.tried(1, 9), (1,))
        with self.assertRaises(Fallen):
            ledger.add(1)


class TrialTest(unittest.TestCase):
    def test_disk(self):
        ledger = Ledger()
        ledger.add(1)
        disk = ledger.disk
        with ledger.trial() as held:
            self.assertIs(held, ledger)
            held.add(2)
            held.renew((3, 4))
            self.assertEqual(ledger.contents(), (3, 4))
        self.assertEqual(ledger.disk, disk)
        ledger.add(5)
        self.assertEqual(ledger.contents(), (1, 5))

    def test_assigned_disk(self):
        ledger = Ledger()
        ledger.trip(1, 1)
        with ledger.trial():
            ledger.disk = written(EMPTY, added(EMPTY, 7), 9)
            ledger.add(8)
            self.assertEqual(ledger.contents(), (7, 8))
        self.assertEqual(ledger.disk, EMPTY)
        with self.assertRaises(Fallen):
            ledger.add(1)
        self.assertEqual(ledger.disk, written(EMPTY, added(EMPTY, 1), 1, 1))

    def test_errors(self):
        for error in (ValueError, KeyError, Fallen, KeyboardInterrupt):
            ledger = Ledger()
            ledger.add(1)
            disk = ledger.disk
            with self.assertRaises(error):
                with ledger.trial():
                    ledger.add(2)
                    ledger.trip(0, 0)
                    raise error()
            self.assertEqual(ledger.disk, disk)
            ledger.add(3)
            self.assertEqual(ledger.contents(), (1, 3))
        ledger = Ledger()
        with self.assertRaises(BadWord) as caught:
            with ledger.trial():
                raise BadWord("x")
        self.assertEqual(caught.exception.word, "x")

    def test_trips(self):
        ledger = Ledger()
        with ledger.trial():
            ledger.trip(0, 1)
        ledger.add(1)
        self.assertEqual(ledger.contents(), (1,))
        ledger.trip(0, 1)
        disk = ledger.disk
        with ledger.trial():
            with self.assertRaises(Fallen):
                ledger.add(2)
            ledger.add(3)
        self.assertEqual(ledger.disk, disk)
        with self.assertRaises(Fallen):
            ledger.add(4)
        self.assertEqual(ledger.contents(), (1,))

    def test_entered_later(self):
        """It is the moment at which the block is entered that counts."""
        ledger = Ledger()
        trial = ledger.trial()
        ledger.add(1)
        ledger.trip(0, 0)
        for _ in range(2):
            with trial:
                ledger.disk = EMPTY
                ledger.add(2)
            self.assertEqual(ledger.contents(), (1,))
        with self.assertRaises(Fallen):
            ledger.add(3)

    def test_one_within_another(self):
        ledger = Ledger()
        with ledger.trial():
            ledger.add(1)
            with ledger.trial() as held:
                held.add(2)
                self.assertEqual(ledger.contents(), (1, 2))
            self.assertEqual(ledger.contents(), (1,))
        self.assertEqual(ledger.contents(), ())

    def test_left_early(self):
        ledger = Ledger()

        def leave():
            with ledger.trial() as held:
                held.add(1)
                return held.contents()

        self.assertEqual(leave(), (1,))
        self.assertEqual(ledger.contents(), ())


class TriedTest(unittest.TestCase):
    def test_each_fall(self):
        ledger = Ledger()
        for begun in ((), (5,), (5, LONG)):
            disk = ledger.disk
            writes = added(disk, LONG)
            for count in range(len(writes) + 3):
                for torn in (0, 1):
                    told = begun + (LONG,) if count >= len(writes) else begun
                    self.assertEqual(ledger.tried(LONG, count, torn), told)
                    self.assertEqual(ledger.tried(LONG, count, torn=torn), told)
            self.assertEqual(ledger.tried(LONG, len(writes)), begun + (LONG,))
            self.assertEqual(ledger.disk, disk)
            ledger.add((5, LONG)[len(begun) % 2])

    def test_torn_blocks_count(self):
        """On a disk with blocks behind, a torn one can end what went on."""
        area = blocks(1, 0, ()) + (None, None) + blocks(1, 2, "old")
        ledger = Ledger((area, ()))
        self.assertEqual(ledger.tried(1, 2), (1, "old"))
        self.assertEqual(ledger.tried(1, 1), ())
        self.assertEqual(ledger.tried(1, 2, 1), (1, "old"))
        self.assertEqual(ledger.disk, (area, ()))
