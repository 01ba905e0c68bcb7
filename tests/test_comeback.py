import random
import unittest

from criermoot.comeback import comeback
from criermoot.errors import TooMany
from criermoot.memory import least_memory, memory_for, senders_to
from criermoot.world import World
from tests import drawn, plainreach
from tests.sitecase import small_book
from tests.test_allreach import book_of
from tests.test_memory import named, offsets
from tests.test_parting import SPOTS_601

WORDS = ("post", "verdict", "say", "hear", "talk", "cut", "break", "mend", "fall", "trip", "wake", "renew", "tick", "round")


class ComebackTest(unittest.TestCase):
    def check(self, book, site):
        """The row of acts does what it is to do; its world."""
        acts = comeback(book, site)
        self.assertIs(type(acts), tuple)
        ticks = [act for act in acts if act == ("tick",)]
        self.assertLessEqual(len(ticks), book[1] + max(entry[2] for entry in book[3]))
        self.assertLessEqual(len(acts) - len(ticks), 200)
        self.assertTrue(all(act[0] in WORDS for act in acts))
        world = World(book)
        for _ in world.play(acts):
            pass
        self.assertIn(site, [name for name, _ in world.twice()])
        # Where all memories are the least ones, the same acts take nothing twice.
        least = drawn.with_memories(book, lambda name: least_memory(book, name))
        world = World(least)
        for _ in world.play(acts):
            pass
        self.assertEqual(world.twice(), ())
        self.assertIsNone(comeback(least, site))
        return acts

    def short(self, book, site, less=1):
        """The book in which a site remembers for a time that is too short by so much."""
        memory = least_memory(book, site) - less
        return drawn.with_memories(book, lambda name: memory if name == site else least_memory(book, name))

    def test_two_sites(self):
        book = offsets(small_book("a>b", window=20), a=3, b=5)
        for less in range(1, 19):
            acts = self.check(self.short(book, "b", less), "b")
            self.assertEqual(acts.count(("tick",)), 19 - less)

    def test_at_the_edge(self):
        for one, other in ((0, 0), (0, 20), (20, 0), (7, 3)):
            book = offsets(small_book("a>b", window=20), a=one, b=other)
            if least_memory(book, "b") > 0:
                self.check(self.short(book, "b"), "b")
                self.check(self.short(book, "b", least_memory(book, "b")), "b")

    def test_long_ways(self):
        book = small_book("a>b", "b>c", "c>d", "d>e", window=9)
        for site in "bcde":
            self.check(self.short(book, site), site)

    def test_a_site_that_sends_to_itself(self):
        for feeds in (("a>b", "b>a"), ("a>b", "b>c", "c>a"), (("a>b", "x"), ("b>a", "y"))):
            book = offsets(small_book(*feeds, window=9), a=4)
            # Nobody else sends it what is dated so late.
            self.check(self.short(book, "a"), "a")
            self.check(self.short(book, "b"), "b")

    def test_a_site_on_its_own_way(self):
        """What comes back to a site goes through it first."""
        book = offsets(small_book("a>b", "b>c", ("c>b", "*", 3), window=9), a=5)
        self.check(self.short(book, "b"), "b")

    def test_all_sites_forget(self):
        for feeds in (("a>b", "b>a"), ("a>b", "b>c", "c>a", "a>c"), ("a>b", "a>c", "b>d", "c>d", "d>a")):
            for memory in (0, 1, 5):
                book = offsets(small_book(*feeds, window=12, memory=memory), a=2, b=1)
                for site in "ab":
                    self.check(book, site)

    def test_lists(self):
        """Letters of lists that expand the notice go along."""
        lists = [("list", "l@a", "a", ("p@d", "q@c", "m@c")), ("list", "m@c", None, ("p@a", "p@d")), ("list", "n@b", "a", ("r@c", "r@d"))]
        book = small_book("a>b", "b>c", "c>d", "d>a", window=9, lists=lists)
        for site in "abcd":
            self.check(self.short(book, site), site)
            self.check(self.short(book, site, 7), site)

    def test_large_windows(self):
        book = offsets(small_book("a>b", "b>c", window=9999), a=999)
        self.check(self.short(book, "c"), "c")

    def test_none(self):
        book = small_book("a>b", d="*")
        self.assertIsNone(comeback(drawn.with_memories(book, lambda name: 50), "b"))
        for site in "ad":
            self.assertIsNone(comeback(drawn.with_memories(book, lambda name: 0), site))
        self.assertIsNotNone(comeback(drawn.with_memories(book, lambda name: 49), "b"))

    def test_too_many(self):
        for memory in (0, 99999):
            book = drawn.with_memories(book_of((SPOTS_601,)), lambda name: memory)
            self.assertEqual(named(lambda: comeback(book, "a")), "spots")
            book = drawn.with_memories(book_of(tuple(f"{letter}*" for letter in "abcdefg")), lambda name: memory)
            self.assertEqual(named(lambda: comeback(book, "a")), "sights")

    def test_drawn(self):
        chance = random.Random(59)
        many = 0
        for number in range(120):
            book = plainreach.random_book(chance, most=5) if number % 2 else drawn.draw_book(chance, stewards=0)
            book = book[:1] + (chance.randrange(4, 30),) + book[2:]
            book = offsets(book, **{entry[1]: chance.randrange(5) for entry in book[3]})
            try:
                needed = {entry[1]: least_memory(book, entry[1]) for entry in book[3]}
            except TooMany:
                continue
            book = drawn.with_memories(book, lambda name: chance.choice((needed[name], max(needed[name] - 1, 0), chance.randrange(30))))
            for entry in book[3]:
                site, memory = entry[1], entry[3]
                if memory >= needed[site]:
                    self.assertIsNone(comeback(book, site))
                else:
                    self.check(book, site)
                    self.assertTrue(any(memory < memory_for(book, origin, site) for origin in senders_to(book, site)))
                    many += 1
        self.assertGreater(many, 100)
