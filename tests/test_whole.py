"""[49], [52], [59], [61] over the whole program: drawn worlds with all acts, calmed at last, against the plain world."""

import random
import unittest

from criermoot.memory import enough, least_memory
from criermoot.plainworld import PlainWorld
from criermoot.stewards import plain_end
from criermoot.why import judge_why, why
from criermoot.world import World, depth
from tests import drawn
from tests.test_rest import calmed, draw_enough, picture
from tests.worldcase import Submissions, Watch, ids_of

MANY_HOLDS = drawn.VERDICTS + (("hold",),) * 4


def deeds_of(world):
    """How many values the disks have together."""
    return sum(len(site.ledger.contents()) for site in world._machine.sites.values())


class WholeTest(unittest.TestCase):
    def calm(self, chance, world, book):
        """Rounds or ticks until the world rests, as many as told."""
        calmed(world, book)
        by_rounds = chance.random() < 0.5
        for _ in range(depth(book) * (1 if by_rounds else 1 + book[2][1])):
            world.do(("round",) if by_rounds else ("tick",))
        self.assertIs(world.rests(), True)

    def test_against_the_plain_world(self):
        whole = shown = boxed = ended = 0
        for seed in range(120):
            chance = random.Random(7000 + seed)
            book = draw_enough(chance, window=chance.choice((30, 200, 900)), verdicts=MANY_HOLDS)
            self.assertIs(enough(book), True)
            world = World(book)
            submissions = Submissions(world, book)
            for _ in range(chance.randrange(40, 140)):
                submissions.do(drawn.draw_act(chance, world, book, drawn.WEIGHED + " verdict talk round"))
            self.calm(chance, world, book)
            watch = Watch(self, world, book)
            watch.watch()
            if len(watch.fresh()) < len(world.posted()):
                continue
            whole += 1
            plain = PlainWorld(book, world.posted())
            for entry in book[3]:
                name, clock = entry[1], world.clock(entry[1])
                self.assertEqual(world.taken(name), plain.taken(name))
                for board in drawn.BOARDS:
                    told = ids_of(world.shown(name, board))
                    self.assertEqual(told, plain.shown(name, board, clock))
                    shown += len(told)
                    self.check_papers(book, world, name, board, told)
                for person in drawn.PERSONS:
                    box = world.box(f"{person}@{name}")
                    self.assertEqual(tuple(sorted(box)), plain.box(f"{person}@{name}"))
                    boxed += len(box)
            for id, notice in submissions.submitted.items():
                ended += self.check_end(book, world, submissions, notice)
        self.assertGreater(min(whole, shown, boxed, ended), 40)

    def check_papers(self, book, world, name, board, told):
        """Why the site shows what it shows."""
        posts, clock = world.posted(), world.clock(name)
        for _, notice in posts[:4]:
            paper = why(book, posts, clock, name, board, notice[1])
            self.assertIs(judge_why(book, posts, clock, name, board, notice[1], paper), True)
            self.assertEqual(paper[0] == "shown", notice[1] in told)

    def check_end(self, book, world, submissions, notice):
        """The end of a submission is the plain one, if it did not become late on its way."""
        id = notice[1]
        told = [verdict for other, verdict in world.told(notice[2]) if other == id]
        if told == [("refused", "late")]:
            return 0
        end = plain_end(book, notice, tuple(submissions.hands.get(id, ())))
        self.assertEqual(told, {"out": [("out",)], "refused": [end], "held": []}[end[0]])
        places = [entry[2] for entry in book[6] if id in world.held(entry[2])]
        self.assertEqual(places, [end[1]] if end[0] == "held" else [])
        return 1

    def test_whatever_sites_remember(self):
        """With memories that are too short all comes to rest, too, and what the sites show is posted and reached."""
        twice = 0
        for seed in range(100):
            chance = random.Random(8000 + seed)
            book = drawn.draw_book(chance, memory=chance.choice((0, 1, 3)), window=30)
            world = World(book)
            for _ in range(100):
                world.do(drawn.draw_act(chance, world, book, drawn.WEIGHED + " tick tick tick"))
            if enough(book):
                self.assertEqual(world.twice(), ())
            twice += len(world.twice())
            self.calm(chance, world, book)
            before = picture(world, book)
            self.assertIs(world.do(("round",)), False)
            self.assertEqual(picture(world, book), before)
        self.assertGreater(twice, 10)

    def test_least_memories_cannot_be_less(self):
        """A site with the least memory forgets just when nothing that it took is offered to it any more."""
        for window in (1, 7):
            for offset in (0, 1):
                sites = tuple(("site", name, offset if name == "hill" else 0, 0, 90, "*") for name in ("hill", "mill"))
                book = ("book", window, (1, 1), sites, (("hill", "mill"),), (("feed", "hill", "mill", "*", 1, 99),), (), ())
                least = least_memory(book, "mill")
                for memory in range(least + 2):
                    told = drawn.with_memories(book, lambda name: memory)
                    world = World(told)
                    world.do(("post", "ann@hill", ("a",), "", (), ("post",), ("text", "plain", ())))
                    for act in (("trip", "hill", 0, 0), ("talk", "hill", "mill"), ("wake", "hill"), ("break", "hill", "mill")):
                        world.do(act)
                    for _ in range(memory + 1):
                        world.do(("tick",))
                    world.do(("mend", "hill", "mill"))
                    world.do(("round",))
                    self.assertEqual(len(world.twice()), 1 if memory < least else 0)

    def test_what_grows(self):
        """Deeds are at most as many as words that take or settle something, acts, and sites for each tick."""
        for seed in range(40):
            chance = random.Random(9000 + seed)
            book = draw_enough(chance)
            world = World(book)
            for _ in range(80):
                act = drawn.draw_act(chance, world, book, drawn.WEIGHED + " renew")
                before = deeds_of(world)
                world.do(act)
                grown = deeds_of(world) - before
                if act[0] in ("post", "verdict", "hear", "wake"):
                    self.assertLessEqual(grown, 1)
                elif act[0] == "renew":
                    self.assertLessEqual(grown, 1)
                    self.assertTrue(not world.is_up(act[1]) or len(world._machine.sites[act[1]].ledger.contents()) == 1)
                elif act[0] not in ("talk", "tick", "round"):
                    self.assertEqual(grown, 0)

    def test_ticks_without_work_write_nothing(self):
        chance = random.Random(61)
        for _ in range(20):
            book = draw_enough(chance)
            world = World(book)
            for _ in range(60):
                world.do(drawn.draw_act(chance, world, book, drawn.WEIGHED))
            self.calm(chance, world, book)
            # When all terms and memories are over, no tick changes anything any more.
            for _ in range(400):
                world.do(("tick",))
            before = deeds_of(world)
            for _ in range(5):
                world.do(("tick",))
            self.assertEqual(deeds_of(world), before)
