"""[2]: values, bools, arguments that stay as they are, and answers that belong to the caller, over the later modules."""

import random
import unittest

from criermoot import comeback, letters, lists, memory, plainworld, ranges, routes, search, stewards, threads, views, why, world
from criermoot.reader import Reader
from criermoot.sites import Site
from criermoot.stories import Desk, Story
from tests import drawn, drawndeeds
from tests.bookcase import BOOK
from tests.samples import notice
from tests.sitecase import ANY, small_book
from tests.test_interface import is_value

POST = notice()
STRIKE = notice(id=("mill", 9), kind=("strike", ("mill", 5)))
ANSWER = notice(id=("mill", 7), refs=(("mill", 5),))
POSTS = (("mill", POST), ("mill", ANSWER))
RING = small_book("a>b", "b>a", memory=3, window=9)
SEALED = small_book("a>b", "b>a", stewards=(("steward", "town.*", "st@b", ((ANY, ("hold",)),)),),
                    lists=(("list", "l@a", "town.fish", ("ann@b", "l@a")),))
LETTER = letters.copy_to(POST, "few@mill", "bob@hill")
PAPER = why.why(RING, (("a", POST),), 12, "b", "town.fish", ("mill", 5))


class ValuesTest(unittest.TestCase):
    ASKED = (
        lambda: views.shown_of(BOOK, "hill", (POST, STRIKE, ANSWER), 12, "town.fish"),
        lambda: routes.distance(BOOK, "mill", "quay"), lambda: routes.next_site(BOOK, "mill", "quay"),
        lambda: routes.next_site(BOOK, "mill", "mill"), lambda: letters.submission(BOOK, POST), lambda: letters.submission(BOOK, STRIKE),
        lambda: letters.note_to(POST, ("out",)), lambda: LETTER, lambda: stewards.decided(BOOK, letters.submission(BOOK, POST), 12),
        lambda: stewards.decided(BOOK, letters.submission(BOOK, POST), 12, ("hold",)), lambda: stewards.plain_end(BOOK, POST),
        lambda: stewards.plain_end(BOOK, POST, (("ann@mill", ("pass",)),)), lambda: lists.members_of(BOOK, "all@mill"),
        lambda: lists.lists_for(BOOK, "mill", ("town.fish",)), lambda: lists.ListDesk(BOOK, "hill").take(POST),
        lambda: lists.ListDesk(BOOK, "hill").hear(LETTER), lambda: lists.ListDesk(BOOK, "hill").box("bob@hill"), lambda: world.depth(BOOK),
        lambda: threads.threads_of((ANSWER, POST)), lambda: tuple(threads.walk(threads.threads_of((ANSWER, POST)))),
        lambda: ranges.read_marks("1-3,7"), lambda: ranges.joined_marks(((1, 3),), ((4, 4), (9, 9))), lambda: ranges.write_marks(((1, 3),)),
        lambda: ranges.marks_without(((1, 9),), ((4, 4),)), lambda: ranges.next_new(((1, 9),), 0), lambda: memory.senders_to(BOOK, "hill"),
        lambda: memory.least_memory(BOOK, "mill"), lambda: comeback.comeback(RING, "a"), lambda: comeback.comeback(BOOK[:6] + ((), ()), "quay"),
        lambda: plainworld.PlainWorld(BOOK, POSTS).taken("hill"), lambda: plainworld.PlainWorld(BOOK, POSTS).shown("hill", "town.fish", 12),
        lambda: plainworld.PlainWorld(SEALED, (("a", POST),)).box("ann@b"), lambda: PAPER, lambda: Story(3).since(0), lambda: Story(3).pairs(),
        lambda: Desk().view, lambda: Reader().ids(), lambda: Reader().new(((1, ("mill", 5)),)), lambda: search.Index().found(("before", 3)))

    def test_asked_again(self):
        first = [ask() for ask in self.ASKED]
        for told in first:
            self.assertTrue(is_value(told), told)
        for _ in range(2):
            self.assertEqual([ask() for ask in reversed(self.ASKED)][::-1], first)
        self.assertEqual(POST, notice())

    def test_bools(self):
        some = small_book("a>b", memory=50)
        asked = (
            lambda one: ranges.marked(((1, 3),), 3 if one else 4), lambda one: search.fits_query(("before", 13 if one else 12), POST),
            lambda one: search.fits_query(("or", ("word", "x"), ("word", "fresh" if one else "y")), POST),
            lambda one: memory.enough(some if one else small_book("a>b", memory=49)),
            lambda one: why.judge_why(RING, (("a", POST),), 12, "b", "town.fish", ("mill", 5), PAPER if one else ("x",)),
            lambda one: world.World(some).is_up("a") if one else down(some, "a").is_up("a"),
            lambda one: (world.World(some) if one else broken(some)).is_whole("b", "a"),
            lambda one: (world.World(some) if one else posted(some)).rests(),
            lambda one: (posted(some) if one else world.World(some)).do(("round",)),
            lambda one: (posted(some) if one else world.World(some)).do(("talk", "a", "b")),
            lambda one: held_site().decide(0, "st@b", ("b", 1 if one else 2), ("hold",)))
        for ask in asked:
            for one in (1, 0, 1):
                self.assertIs(ask(one), one == 1)


def down(book, site):
    told = world.World(book)
    told.do(("fall", site))
    return told


def broken(book):
    told = world.World(book)
    told.do(("break", "a", "b"))
    return told


def posted(book):
    told = world.World(book)
    told.do(("post", "ann@a", ("town.fish",), "", (), ("post",), ("text", "plain", ())))
    return told


def held_site():
    site = Site(SEALED, "b")
    site.post(0, "ann", ("town.fish",), "", (), ("post",), ("text", "plain", ()))
    return site


class ObjectsTest(unittest.TestCase):
    def told_by_site(self, site, addresses):
        found = [site.taken(), site.twice(), site.posted(), site.ledger.disk, tuple(sorted(site.known().items()))]
        for other in site._tables.queues:
            found += [site.items_for(other), site.clears_for(other), site.kept_from(other)]
        for board in drawn.BOARDS:
            found += [site.shown(9, board), site.since(board, 0)]
        return found + [ask(address) for address in addresses for ask in (site.box, site.told, site.held)]

    def test_sites(self):
        """Equal deeds make sites that tell equal values, which stay as they are."""
        for seed in range(12):
            kept, runs = [], []
            for _ in range(2):
                chance = random.Random(seed)
                book = drawn.draw_book(chance)
                name = chance.choice(book[3])[1]
                site, drawer, found = Site(book, name), drawndeeds.Drawer(chance, book, name), []
                for _ in range(25):
                    deed = drawer.draw(site)
                    before = repr(deed)
                    getattr(site, deed[0])(*deed[1:])
                    self.assertEqual(repr(deed), before)
                    site.known().clear()
                    found.append(self.told_by_site(site, drawer.addresses()))
                    self.assertTrue(is_value(tuple(found[-1])))
                    kept.append((found[-1], repr(found[-1])))
                runs.append(found)
            self.assertEqual(runs[0], runs[1])
            for told, text in kept:
                self.assertEqual(repr(told), text)

    def test_worlds(self):
        """Equal acts make worlds that tell equal values, which stay as they are; books and acts stay as they are."""
        for seed in range(12):
            chance = random.Random(seed)
            book = drawn.draw_book(chance)
            one, other, kept = world.World(book), world.World(book), []
            before = repr(book)
            for _ in range(50):
                act = drawn.draw_act(chance, one, book, drawn.WEIGHED)
                text = repr(act)
                told = one.do(act)
                self.assertEqual(other.do(act), told)
                self.assertEqual((repr(act), repr(book)), (text, before))
                self.assertIs(type(told) is bool, act[0] in ("talk", "round"))
                found = [world_told(told_by, book) for told_by in (one, other)]
                self.assertEqual(found[0], found[1])
                self.assertTrue(is_value(found[0]))
                kept.append((found[0], repr(found[0])))
            for told, text in kept:
                self.assertEqual(repr(told), text)

    def test_readers_only_change_each_other(self):
        one, other = Reader(), Reader()
        view = ((1, ("mill", 5)), (2, ("mill", 7)))
        one.read(("mill", 5))
        first = one.new(view)
        one.meet(other)
        other.read(("mill", 7))
        self.assertEqual((first, one.new(view), other.new(view)), (view[1:], view[1:], ()))


def world_told(told, book):
    """All that a world tells, as a value."""
    found = [told.time, told.posted(), told.twice()]
    for name in [entry[1] for entry in book[3]]:
        found += [told.clock(name), told.taken(name)]
        found += [ask(name, board, *more) for board in drawn.BOARDS for ask, more in ((told.shown, ()), (told.since, (0,)))]
        found += [ask(f"{person}@{name}") for person in drawn.PERSONS for ask in (told.box, told.told, told.held)]
    for line in book[4]:
        for giver, taker in (line, line[::-1]):
            found += [told.underway(giver, taker), told.bodies(giver, taker, "1@hill"), told.cuts(giver, taker, "1@hill")]
    return tuple(found)
