"""[49], [51], [52]: drawn books and rows of acts, at every moment and at rest."""

import random
import unittest

from criermoot.memory import least_memory
from criermoot.world import World, depth
from tests import drawn, plainsites
from tests.sitecase import small_book
from tests.worldcase import Submissions, Watch


def draw_enough(chance, **more):
    """A book in which each site remembers just long enough, or somewhat longer."""
    book = drawn.draw_book(chance, **more)
    return drawn.with_memories(book, lambda name: least_memory(book, name) + chance.choice((0, 0, 0, 5)))


# Acts by which nothing new is posted and no site falls.
QUIET = "say hear hear " * 8 + "talk talk cut break mend mend renew tick round"


def calmed(world, book):
    for act in drawn.mended(world, book):
        world.do(act)


def picture(world, book):
    """All that a world tells, but for talks."""
    addresses = [f"{person}@{entry[1]}" for person in drawn.PERSONS for entry in book[3]] + [entry[2] for entry in book[6]]
    return ([(world.taken(entry[1]), [(world.shown(entry[1], board), world.since(entry[1], board, 0)) for board in drawn.BOARDS])
             for entry in book[3]],
            [(world.box(address), world.told(address), world.held(address)) for address in addresses], world.posted(), world.twice())


class RestTest(unittest.TestCase):
    def drawn_world(self, seed, acts=120, every=1, **more):
        chance = random.Random(seed)
        book = draw_enough(chance, **more)
        world = World(book)
        watch = Watch(self, world, book)
        for number in range(acts):
            world.do(drawn.draw_act(chance, world, book, drawn.WEIGHED))
            if number % every == 0:
                watch.watch()
        watch.watch_talks()
        return chance, book, world, watch

    def test_every_moment(self):
        many = taken = 0
        for seed in range(60):
            _, _, world, watch = self.drawn_world(seed, 90)
            many += len(world.posted())
            taken += sum(len(world.taken(entry[1])) for entry in watch.book[3])
        self.assertGreater(many, 150)
        self.assertGreater(taken, 200)

    def test_rest_behind_rounds(self):
        whole = 0
        for seed in range(100, 200):
            _, book, world, watch = self.drawn_world(seed, every=40)
            calmed(world, book)
            for _ in range(depth(book)):
                world.do(("round",))
            whole += watch.watch_rest()
            watch.watch()
            before = picture(world, book)
            self.assertIs(world.do(("round",)), False)
            self.assertEqual(picture(world, book), before)
        self.assertGreater(whole, 25)

    def test_rest_behind_ticks(self):
        whole = 0
        for seed in range(200, 260):
            _, book, world, watch = self.drawn_world(seed, 80, every=40, window=80)
            calmed(world, book)
            for _ in range(depth(book) * (1 + book[2][1])):
                world.do(("tick",))
            whole += watch.watch_rest()
            watch.watch()
        self.assertGreater(whole, 5)

    def test_a_round_at_rest_cuts_talks(self):
        world = World(small_book("hill>mill"))
        world.do(("post", "ann@hill", ("a",), "", (), ("post",), ("text", "plain", ())))
        while world.do(("say", "hill", "mill")) != "close":
            world.do(("hear", "hill", "mill", "taker"))
            world.do(("hear", "hill", "mill", "giver"))
        self.assertIs(world.rests(), True)
        self.assertIs(world.do(("round",)), False)
        self.assertIsNone(world.underway("hill", "mill"))

    def test_the_longest_way_to_rest(self):
        """A chain from one end of which submissions, copies and notes go to the other end and back."""
        feeds = [f"{one}>{other}" for pair in ("ab", "bc", "cd", "de") for one, other in (pair, pair[::-1])]
        stewards = [("steward", "x", "p@e", ((("not", ("sealed", "p@e")), ("send", "q@a")),)), ("steward", "y", "q@a", ()),
                    ("steward", "z", "r@e", ())]
        lists = [("list", "l@a", "x", ("m@e", "ann@e")), ("list", "m@e", None, ("n@a",)), ("list", "n@a", None, ("bob@e",))]
        book = small_book(*feeds, stewards=stewards, lists=lists)
        world = World(book)
        world.do(("post", "ann@a", ("x", "y", "z"), "", (), ("post",), ("text", "plain", ())))
        rounds = 0
        while not world.rests():
            world.do(("round",))
            rounds += 1
        self.assertGreater(rounds, 10)
        self.assertLessEqual(rounds, depth(book))
        self.assertEqual(world.told("ann@a"), ((("a", 1), ("out",)),))
        self.assertEqual((world.box("ann@e"), world.box("bob@e")), (((("a", 1),)), ((("a", 1),))))

    def test_ends_of_submissions(self):
        """With the hands that were used, the ends are the plain ones, and each author is told once."""
        seen, used = {}, 0
        for seed in range(300, 420):
            chance = random.Random(seed)
            book = draw_enough(chance, lists=1, window=600, verdicts=drawn.VERDICTS + (("hold",),) * 6)
            world = World(book)
            submissions = Submissions(world, book)
            for _ in range(80):
                submissions.do(drawn.draw_act(chance, world, book, drawn.WEIGHED + " verdict verdict talk talk round"))
            calmed(world, book)
            for _ in range(depth(book)):
                world.do(("round",))
            used += len(submissions.hands)
            for id, notice in submissions.submitted.items():
                end = submissions.end_of(id)
                seen[end[:1 if end[0] != "refused" else 2]] = True
                told = [verdict for other, verdict in world.told(notice[2]) if other == id]
                if end[0] == "held":
                    self.assertEqual((told, submissions.found_end(id)), ([], end))
                elif end[0] == "refused":
                    self.assertEqual(submissions.found_end(id), end)
                elif plainsites.plainreach.carries(book, end[2], notice[4]):
                    self.assertEqual(submissions.found_end(id), end)
                if end[0] != "held":
                    self.assertEqual(told, [end if end[0] == "refused" else ("out",)])
        self.assertGreater(used, 15)
        names = ("fish", "nobody", "ring", "nowhere")
        self.assertEqual(set(seen), {("out",), ("held",)} | {("refused", name) for name in names})

    def test_whatever_the_order_is(self):
        """The same posts, brought on in different orders, come to the same."""
        for seed in range(40):
            chance = random.Random(900 + seed)
            book = draw_enough(chance, stewards=0, window=60)
            posts = [drawn.draw_post(chance, World(book), book) for _ in range(5)]
            found = []
            for _ in range(3):
                world = World(book)
                for act in posts:
                    world.do(act)
                    for _ in range(chance.randrange(12)):
                        world.do(drawn.draw_act(chance, world, book, QUIET))
                calmed(world, book)
                for _ in range(depth(book)):
                    world.do(("round",))
                boxes = [sorted(world.box(f"{person}@{entry[1]}")) for person in drawn.PERSONS for entry in book[3]]
                found.append(([world.taken(entry[1]) for entry in book[3]], boxes))
            self.assertEqual(found[0], found[1])
            self.assertEqual(found[0], found[2])
