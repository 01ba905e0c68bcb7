import random
import unittest

from criermoot.routes import distance, next_site
from tests import drawn, plainsites
from tests.bookcase import BOOK


def lines(*pairs):
    """A book with these lines, and with the sites s0 to s7 in an order of their own."""
    sites = tuple(("site", f"s{number}", 0, 60, 90, "*") for number in (3, 1, 7, 0, 2, 6, 5, 4))
    return ("book", 50, (1, 8), sites, tuple(sorted((f"s{one}", f"s{other}") for one, other in pairs)), (), (), ())


RING = lines((0, 1), (1, 2), (2, 3), (3, 4), (4, 5), (0, 5))
CHAIN = lines((0, 3), (1, 3), (1, 5), (5, 7), (2, 7))
TWO = lines((0, 1), (2, 3), (3, 4))


class RouteTest(unittest.TestCase):
    def check(self, book, here, goal, many, step):
        self.assertEqual(distance(book, here, goal), many)
        self.assertEqual(distance(book, goal, here), many)
        self.assertEqual(next_site(book, here, goal), step)

    def test_itself(self):
        for name in ("s0", "s6"):
            self.check(RING, name, name, 0, None)
            self.check(lines(), name, name, 0, None)

    def test_ring(self):
        self.check(RING, "s0", "s1", 1, "s1")
        self.check(RING, "s0", "s2", 2, "s1")
        self.check(RING, "s0", "s4", 2, "s5")
        # Both neighbours are equally near; the least one is taken, wherever the way goes on.
        self.check(RING, "s0", "s3", 3, "s1")
        self.check(RING, "s3", "s0", 3, "s2")
        self.check(RING, "s5", "s2", 3, "s0")

    def test_chain(self):
        for here, goal, many, step in (("s0", "s2", 5, "s3"), ("s2", "s0", 5, "s7"), ("s1", "s2", 3, "s5"), ("s7", "s3", 3, "s5")):
            self.check(CHAIN, here, goal, many, step)

    def test_nets_that_fall_apart(self):
        for here, goal in (("s0", "s2"), ("s4", "s1"), ("s0", "s7"), ("s6", "s7")):
            self.check(TWO, here, goal, None, None)
            self.check(TWO, goal, here, None, None)
        self.check(TWO, "s4", "s2", 2, "s3")

    def test_several_neighbours(self):
        net = lines((0, 4), (0, 2), (0, 3), (4, 7), (2, 7), (3, 7), (0, 1), (1, 5), (5, 7))
        self.check(net, "s0", "s7", 2, "s2")
        self.check(net, "s7", "s0", 2, "s2")
        self.check(net, "s1", "s7", 2, "s5")

    def test_feeds_do_not_matter(self):
        self.assertEqual(distance(BOOK, "mill", "quay"), 2)
        self.assertEqual(next_site(BOOK, "mill", "quay"), "hill")

    def test_drawn(self):
        chance = random.Random(35)
        apart = 0
        for _ in range(150):
            names = [f"s{number}" for number in range(chance.randrange(1, 9))]
            book = lines()[:4] + (drawn.draw_lines(chance, names, 0.35)[:16],) + lines()[5:]
            for here in names:
                for goal in names:
                    many = plainsites.distance(book, here, goal)
                    apart += many is None
                    self.check(book, here, goal, many, plainsites.next_site(book, here, goal))
        self.assertGreater(apart, 100)
