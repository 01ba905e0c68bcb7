import random
import unittest

from criermoot.plainworld import PlainWorld
from criermoot.world import World, depth
from tests import drawn, plainsites
from tests.sitecase import hiding, post, small_book
from tests.test_rest import QUIET, calmed, draw_enough


def draw_notices(chance, book, many=8):
    """Posts of which many name others to hide them; each is carried by its origin, or not."""
    found = []
    for number in range(1, many + 1):
        site = chance.choice(book[3])[1]
        author = f"{chance.choice(drawn.PERSONS)}@{site}"
        kind = ("post",)
        if found and chance.random() < 0.6:
            other = chance.choice(found)[1]
            kind = (chance.choice(("strike", "replace")), other[1])
            author = other[2] if chance.random() < 0.7 else author
            stewards = [entry[2] for entry in book[6]]
            author = chance.choice(stewards) if stewards and chance.random() < 0.3 else author
        boards = tuple(chance.sample(drawn.BOARDS, chance.choice((1, 2, 3))))
        whole = post(number, author, boards, chance.randrange(20), kind, chance.choice(drawn.BODIES))
        found.append((chance.choice((site, author.split("@")[1])), whole))
    return tuple(found)


class PlainWorldTest(unittest.TestCase):
    BOOK = small_book("hill>mill", ("mill>quay", "a*", 2, 5), quay="*,!b", term=20)

    def test_taken(self):
        posts = (("hill", post(3)), ("hill", post(1, boards=("b",))), ("mill", post(2, body=("text", "plain", ("",) * 4))),
                 ("mill", post(9, body=("text", "plain", ("",) * 5))), ("quay", post(4, boards=("b",))))
        plain = PlainWorld(self.BOOK, posts)
        self.assertEqual(plain.taken("hill"), ((("quay", 1), 0), (("quay", 3), 0)))
        self.assertEqual(plain.taken("mill"), ((("quay", 1), 1), (("quay", 2), 0), (("quay", 3), 1), (("quay", 9), 0)))
        self.assertEqual(plain.taken("quay"), ((("quay", 2), 1), (("quay", 3), 2)))
        self.assertEqual(PlainWorld(self.BOOK, ()).taken("hill"), ())

    def test_shown(self):
        one, two = post(1, boards=("a", "b"), date=10), post(2, date=5)
        strike, other = hiding("strike", two, 3), hiding("replace", two, 4, boards=("ab",))
        plain = PlainWorld(self.BOOK, (("hill", one), ("hill", two)))
        for name in ("hill", "mill", "quay"):
            self.assertEqual(plain.shown(name, "a", 0), (("quay", 2), ("quay", 1)))
            self.assertEqual(plain.shown(name, "a", 25), (("quay", 2), ("quay", 1)))
            self.assertEqual(plain.shown(name, "a", 26), (("quay", 1),))
            self.assertEqual(plain.shown(name, "a", 31), ())
        # The pattern of quay does not let this board, though it has taken the notice.
        self.assertEqual([plain.shown(name, "b", 0) for name in ("mill", "quay")], [(("quay", 1),), ()])
        plain = PlainWorld(self.BOOK, (("hill", one), ("hill", two), ("mill", strike), ("mill", other)))
        self.assertEqual(plain.shown("hill", "a", 0), (("quay", 2), ("quay", 1)))
        self.assertEqual(plain.shown("mill", "a", 0), (("quay", 1),))
        self.assertEqual(plain.shown("quay", "ab", 0), (("quay", 4),))

    def test_boxes(self):
        lists = [("list", "l@mill", "b", ("n@hill", "ann@mill")), ("list", "n@hill", None, ("l@mill", "bob@quay", "eve@far")),
                 ("list", "o@quay", "b", ("cid@quay",)), ("list", "p@quay", "a", ("dan@quay",))]
        book = small_book("hill>mill", ("mill>quay", "a*", 2, 5), quay="*,!b", lists=lists, far="*")
        posts = (("hill", post(2, boards=("a", "b"))), ("mill", post(1, boards=("b",))), ("hill", post(3)),
                 ("hill", post(4, boards=("b",), kind=("strike", ("x", 1)))), ("hill", post(5, boards=("b",), kind=("replace", ("x", 1)))),
                 ("quay", post(6, boards=("a", "b"))))
        plain = PlainWorld(book, posts)
        ids = lambda *numbers: tuple(("quay", number) for number in numbers)
        self.assertEqual(plain.box("ann@mill"), ids(1, 2, 5))
        self.assertEqual(plain.box("bob@quay"), ids(1, 2, 5))
        self.assertEqual(plain.box("dan@quay"), ids(2, 3, 6))
        # No lines lead to far, the pattern of quay does not let the board b, and lists have no boxes.
        for address in ("eve@far", "cid@quay", "n@hill", "l@mill", "ann@hill"):
            self.assertEqual(plain.box(address), ())

    def test_drawn(self):
        chance = random.Random(50)
        many = 0
        for _ in range(120):
            book = drawn.draw_book(chance, lists=4)
            posts = draw_notices(chance, book)
            plain = PlainWorld(book, posts)
            for entry in book[3]:
                name = entry[1]
                reached = plainsites.taken(book, posts, name)
                told = tuple(sorted((id, hops) for id, (hops, _) in reached.items()))
                self.assertEqual(plain.taken(name), told)
                notices = [notice for _, notice in reached.values()]
                for board in drawn.BOARDS:
                    for clock in {notice[3] + entry[4] + late for notice in notices for late in (0, 1)}:
                        shown = plainsites.shown(book, name, notices, clock, board)
                        self.assertEqual(plain.shown(name, board, clock), shown)
                for person in drawn.PERSONS:
                    box = plainsites.box(book, posts, f"{person}@{name}")
                    many += len(box)
                    self.assertEqual(plain.box(f"{person}@{name}"), box)
        self.assertGreater(many, 100)

    def test_the_same_as_a_world_at_rest(self):
        whole = 0
        for seed in range(60):
            chance = random.Random(5000 + seed)
            book = draw_enough(chance, window=200)
            world = World(book)
            for _ in range(60):
                world.do(drawn.draw_act(chance, world, book, QUIET + " post post post post fall wake wake verdict"))
            calmed(world, book)
            for _ in range(depth(book)):
                world.do(("round",))
            plain = PlainWorld(book, world.posted())
            whole += len(world.posted()) > 1
            for entry in book[3]:
                self.assertEqual(world.taken(entry[1]), plain.taken(entry[1]))
                for board in drawn.BOARDS:
                    told = tuple(id for _, id in world.shown(entry[1], board))
                    self.assertEqual(told, plain.shown(entry[1], board, world.clock(entry[1])))
                for person in drawn.PERSONS:
                    address = f"{person}@{entry[1]}"
                    self.assertEqual(tuple(sorted(world.box(address))), plain.box(address))
        self.assertGreater(whole, 30)
