"""[48]: directions are tried at ticks, with waits that grow."""

import random
import unittest

from criermoot.world import World
from tests.sitecase import BODY, SMALL, small_book

HM = ("hill", "mill")
TICK = ("tick",)


def post(address="ann@hill", body=SMALL):
    return ("post", address, ("a",), "", (), ("post",), body)


def of(first, longest):
    return small_book("hill>mill", waits=(first, longest), memory=9999, window=9999)


def tried_at(first, longest, most, begin=1):
    """The times at which a direction is tried in vain, from the first one on."""
    found, wait, time = [], first, begin
    while time <= most:
        found.append(time)
        time, wait = time + wait, min(2 * wait, longest)
    return found


def taken(world, name="mill"):
    return len(world.taken(name))


def do(world, *acts):
    for act in acts:
        world.do(act)


def ticks_to(world, time):
    do(world, *[TICK] * (time - world.time))


class WaitsTest(unittest.TestCase):
    def when_taken(self, world, many, most=200):
        """The time at which the taker has taken so many notices."""
        while taken(world) < many and world.time < most:
            world.do(TICK)
        return world.time

    def test_at_once(self):
        world = World(of(3, 8))
        do(world, post(), TICK)
        self.assertEqual(taken(world), 1)

    def test_waits_that_grow(self):
        for first, longest in ((1, 1), (1, 2), (1, 8), (2, 7), (3, 3), (3, 64), (5, 9)):
            times = tried_at(first, longest, 120)
            for mended in range(0, 60):
                world = World(of(first, longest))
                do(world, post(), ("break",) + HM)
                ticks_to(world, mended)
                world.do(("mend",) + HM)
                self.assertEqual(self.when_taken(world, 1), min(time for time in times if time > mended))

    def test_a_taker_that_is_down(self):
        times = tried_at(2, 8, 99)
        for woken in (1, 2, 6, 7, 20):
            world = World(of(2, 8))
            do(world, post(), ("fall", "mill"))
            ticks_to(world, woken)
            world.do(("wake", "mill"))
            self.assertEqual(self.when_taken(world, 1), min(time for time in times if time > woken))

    def test_they_begin_anew(self):
        """Behind a talk that is held to its end the wait is the first one again, and the next try is at the next tick."""
        world = World(of(2, 16))
        do(world, post(), ("break",) + HM)
        ticks_to(world, 20)
        world.do(("mend",) + HM)
        time = self.when_taken(world, 1)
        self.assertEqual(time, 31)
        do(world, post(), TICK)
        self.assertEqual((taken(world), world.time), (2, 32))
        do(world, post(), ("break",) + HM)
        ticks_to(world, 36)
        world.do(("mend",) + HM)
        # Tried at 33, 35 and 39.
        self.assertEqual(self.when_taken(world, 3), 39)

    def test_nothing_to_hand_on(self):
        """While there is nothing to hand on, nothing is tried, and no wait grows."""
        world = World(of(2, 16))
        do(world, ("break",) + HM)
        ticks_to(world, 9)
        do(world, post())
        ticks_to(world, 12)
        world.do(("mend",) + HM)
        # Tried at 10 and 12, and then at 16.
        self.assertEqual(self.when_taken(world, 1), 16)

    def test_other_acts_change_nothing(self):
        for act in (("talk",) + HM, ("round",)):
            world = World(of(2, 16))
            do(world, post(), ("break",) + HM)
            ticks_to(world, 4)
            do(world, ("mend",) + HM, act)
            self.assertEqual(taken(world), 1)
            # Tried at 1 and 3, and then at 7.
            do(world, post())
            self.assertEqual(self.when_taken(world, 2), 7)

    def test_a_giver_that_wakes(self):
        world = World(of(4, 64))
        do(world, post(), ("break",) + HM)
        ticks_to(world, 20)
        do(world, ("fall", "hill"), ("wake", "hill"), ("mend",) + HM, TICK)
        self.assertEqual((taken(world), world.time), (1, 21))
        world = World(of(4, 64))
        do(world, post(), ("break",) + HM)
        ticks_to(world, 20)
        do(world, ("fall", "hill"), ("wake", "hill"))
        ticks_to(world, 22)
        world.do(("mend",) + HM)
        # Tried at 21, and 4 later.
        self.assertEqual(self.when_taken(world, 1), 25)

    def test_a_taker_that_wakes(self):
        """Nothing begins anew in a direction whose taker wakes."""
        world = World(of(4, 64))
        do(world, post(), ("break",) + HM)
        ticks_to(world, 20)
        do(world, ("fall", "mill"), ("wake", "mill"), ("mend",) + HM)
        self.assertEqual(self.when_taken(world, 1), 29)

    def test_a_giver_that_is_down_waits_for_nothing(self):
        world = World(of(4, 64))
        do(world, post(), ("fall", "hill"))
        ticks_to(world, 7)
        do(world, ("wake", "hill"), TICK)
        self.assertEqual(taken(world), 1)

    def test_a_talk_that_is_not_held_to_its_end(self):
        """The taker falls in the talk; so it was tried in vain."""
        world = World(of(3, 64))
        do(world, post(), ("trip", "mill", 0, 0), TICK)
        self.assertEqual((taken(world), world.is_up("mill")), (0, False))
        do(world, ("wake", "mill"))
        self.assertEqual(self.when_taken(world, 1), 4)

    def test_a_talk_that_is_under_way(self):
        """It is cut by the talk of a try, but not where there is no try."""
        world = World(of(4, 64))
        do(world, post(), ("say",) + HM, TICK)
        self.assertIsNone(world.underway(*HM))
        self.assertEqual(taken(world), 1)
        world = World(of(4, 64))
        do(world, post(), ("break",) + HM, TICK, ("mend",) + HM, ("say",) + HM, TICK, TICK, TICK)
        self.assertIsNotNone(world.underway(*HM))
        do(world, TICK)
        self.assertIsNone(world.underway(*HM))

    def test_order(self):
        """Sites do their ticks ahead of all tries, and directions are tried in the order of a round."""
        book = small_book("quay>mill", "mill>hill")
        world = World(book)
        do(world, post("ann@quay"), TICK)
        self.assertEqual((taken(world, "mill"), taken(world, "hill")), (1, 0))
        do(world, TICK)
        self.assertEqual(taken(world, "hill"), 1)
        book = small_book("hill>mill", "mill>quay")
        world = World(book)
        do(world, post(), TICK)
        self.assertEqual((taken(world, "mill"), taken(world, "quay")), (1, 1))
        # At the tick at which mill forgets, it takes again what it is offered.
        world = World(small_book("hill>mill", memory=2, waits=(1, 1)))
        do(world, post(), ("trip", "hill", 0, 0), ("talk",) + HM, ("wake", "hill"), ("break",) + HM, TICK, TICK, ("mend",) + HM)
        self.assertEqual(world.twice(), ())
        do(world, TICK)
        self.assertEqual(world.twice(), (("mill", ("hill", 1)),))

    def test_drawn(self):
        """Breaks, falls and acts by chance, against waits that are reckoned by hand."""
        chance = random.Random(48)
        for _ in range(150):
            first = chance.randrange(1, 5)
            longest = chance.randrange(first, 20)
            world, wait, next_try, queued = World(of(first, longest)), first, 0, 0
            for _ in range(60):
                act = chance.choice((post(body=BODY), TICK, TICK, TICK, TICK, ("break",) + HM, ("mend",) + HM, ("fall", "mill"),
                                     ("wake", "mill"), ("fall", "hill"), ("wake", "hill"), ("talk",) + HM))
                whole = world.is_whole(*HM) and world.is_up("hill") and world.is_up("mill")
                if act == ("wake", "hill") and not world.is_up("hill"):
                    wait, next_try = first, world.time
                told = world.do(act)
                queued += act[0] == "post" and told is not None
                if act[0] == "talk" and whole:
                    queued = 0
                if act == TICK and world.time >= next_try and queued and world.is_up("hill"):
                    if whole:
                        wait, next_try, queued = first, world.time + 1, 0
                    else:
                        wait, next_try = min(2 * wait, longest), world.time + wait
                self.assertEqual(taken(world) + queued, taken(world, "hill"))
