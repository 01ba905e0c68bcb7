import unittest

from criermoot.feeds import passes
from tests.bookcase import feed


class FeedsTest(unittest.TestCase):
    def test_boards(self):
        some = feed(pattern="town.*,!town.x", hops=3, size=9)
        for boards, told in ((("town.fish",), True), (("town.x",), False), (("a",), False), (("town.x", "a"), False),
                             (("town.x", "a", "town.y"), True), (("town.fish", "a"), True), (("town",), False)):
            self.assertIs(passes(some, boards, 5, 0), told)

    def test_sizes(self):
        for size, told in ((1, True), (8, True), (9, True), (10, False), (2000, False)):
            self.assertIs(passes(feed(hops=3, size=9), ("a",), size, 0), told)

    def test_hops(self):
        for hops, told in ((0, True), (1, True), (2, True), (3, False), (4, False), (9, False)):
            self.assertIs(passes(feed(hops=3, size=9), ("a",), 9, hops), told)
        self.assertIs(passes(feed(hops=1), ("a",), 1, 0), True)
        self.assertIs(passes(feed(hops=1), ("a",), 1, 1), False)
        self.assertIs(passes(feed(hops=9), ("a",), 1, 8), True)
        self.assertIs(passes(feed(hops=9), ("a",), 1, 9), False)

    def test_all_together(self):
        some = feed(pattern="a", hops=2, size=5)
        self.assertIs(passes(some, ("a",), 5, 1), True)
        self.assertIs(passes(some, ("b",), 5, 1), False)
        self.assertIs(passes(some, ("a",), 6, 1), False)
        self.assertIs(passes(some, ("a",), 5, 2), False)
