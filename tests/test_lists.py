import random
import unittest

from criermoot.letters import copy_to
from criermoot.lists import ListDesk, lists_for, members_of
from tests import drawn, plainsites
from tests.bookcase import BOOK, book, site
from tests.samples import notice


def of(*lists, **parts):
    """A book with these lists, each an address, a board and members, separated by blanks; `-` is no board."""
    told = []
    for text in lists:
        address, board, *members = text.split()
        told.append(("list", address, None if board == "-" else board, tuple(members)))
    return book(stewards=(), lists=tuple(told), **parts)


APART = {"lines": (("hill", "mill"),), "feeds": ()}


class MembersTest(unittest.TestCase):
    def test_persons(self):
        self.assertEqual(members_of(of("l@mill - eve@quay ann@hill bob@mill"), "l@mill"), ("ann@hill", "bob@mill", "eve@quay"))
        self.assertEqual(members_of(of("l@mill -"), "l@mill"), ())

    def test_lists_of_lists(self):
        lists = of("a@mill - b@hill ann@hill", "b@hill x c@quay bob@hill", "c@quay - cid@mill", "d@quay - a@mill")
        self.assertEqual(members_of(lists, "a@mill"), ("ann@hill", "bob@hill", "cid@mill"))
        self.assertEqual(members_of(lists, "b@hill"), ("bob@hill", "cid@mill"))
        self.assertEqual(members_of(lists, "d@quay"), ("ann@hill", "bob@hill", "cid@mill"))

    def test_rings(self):
        lists = of("a@mill - b@hill ann@hill", "b@hill - c@quay", "c@quay - a@mill cid@mill", "me@mill - me@mill")
        for address in ("a@mill", "b@hill", "c@quay"):
            self.assertEqual(members_of(lists, address), ("ann@hill", "cid@mill"))
        self.assertEqual(members_of(lists, "me@mill"), ())

    def test_missing_ways(self):
        lists = of("a@mill - b@quay ann@quay bob@hill c@hill", "b@quay - bob@mill dan@quay", "c@hill - eve@quay dan@mill", **APART)
        self.assertEqual(members_of(lists, "a@mill"), ("bob@hill", "dan@mill"))
        self.assertEqual(members_of(lists, "b@quay"), ("dan@quay",))

    def test_drawn(self):
        chance = random.Random(40)
        for _ in range(200):
            lists = drawn.draw_book(chance, stewards=0, lists=5)
            for entry in lists[7]:
                self.assertEqual(members_of(lists, entry[1]), tuple(sorted(plainsites.members(lists, entry[1]))))


class ListsForTest(unittest.TestCase):
    def test_lists_for(self):
        lists = of("z@mill town.fish", "a@mill town.sale", "n@mill -", "x@mill a", "h@hill town.fish", "b@mill town.corn")
        self.assertEqual(lists_for(lists, "mill", ("town.sale", "b", "town.fish")), ("z@mill", "a@mill"))
        self.assertEqual(lists_for(lists, "hill", ("town.fish",)), ("h@hill",))
        self.assertEqual(lists_for(lists, "mill", ("b",)), ())
        # The pattern of the site does not let the board of this list.
        self.assertEqual(lists_for(lists, "mill", ("a", "town.fish")), ("z@mill",))
        self.assertEqual(lists_for(BOOK, "mill", ("town.fish",)), ("few@mill",))


class ListDeskTest(unittest.TestCase):
    def test_take(self):
        lists = of("z@mill town.fish eve@quay ann@mill", "a@mill town.sale bob@hill", "h@hill town.fish bob@hill")
        desk = ListDesk(lists, "mill")
        whole = notice(boards=("town.sale", "town.fish"))
        told = tuple(copy_to(whole, *pair) for pair in (("z@mill", "eve@quay"), ("z@mill", "ann@mill"), ("a@mill", "bob@hill")))
        self.assertEqual(desk.take(whole), told)
        # Each id is expanded once.
        self.assertEqual(desk.take(whole), ())
        self.assertEqual(desk.take(notice(id=("mill", 6), boards=("a", "b"))), ())
        self.assertEqual(len(desk.take(notice(id=("mill", 6)))), 3)
        self.assertEqual(ListDesk(lists, "hill").take(whole), (copy_to(whole, "h@hill", "bob@hill"),))

    def test_strikes_and_replacements(self):
        lists = of("z@mill town.fish eve@quay")
        desk = ListDesk(lists, "mill")
        self.assertEqual(desk.take(notice(kind=("strike", ("a", 1)))), ())
        whole = notice(kind=("replace", ("a", 1)))
        self.assertEqual(desk.take(whole), (copy_to(whole, "z@mill", "eve@quay"),))

    def test_missing_ways(self):
        desk = ListDesk(of("z@mill town.fish eve@quay bob@hill", **APART), "mill")
        self.assertEqual(desk.take(notice()), (copy_to(notice(), "z@mill", "bob@hill"),))

    def test_copies_for_lists(self):
        desk = ListDesk(of("n@mill - eve@quay n@mill ann@mill", "z@mill town.fish n@mill"), "mill")
        copies = desk.take(notice())
        self.assertEqual(copies, (copy_to(notice(), "z@mill", "n@mill"),))
        told = tuple(copy_to(notice(), "n@mill", member) for member in ("eve@quay", "n@mill", "ann@mill"))
        self.assertEqual(desk.hear(copies[0]), told)
        self.assertEqual(desk.hear(told[1]), ())
        self.assertEqual(desk.hear(copy_to(notice(), "z@hill", "n@mill")), ())
        self.assertEqual(desk.hear(told[2]), ())
        self.assertEqual(desk.box("ann@mill"), (("mill", 5),))
        self.assertEqual(desk.box("n@mill"), ())
        # A copy of what a list has taken comes to it.
        self.assertEqual(desk.hear(copy_to(notice(), "z@hill", "z@mill")), ())
        other = notice(id=("mill", 6))
        self.assertEqual(desk.hear(copy_to(other, "z@hill", "z@mill")), (copy_to(other, "z@mill", "n@mill"),))
        self.assertEqual(desk.take(other), ())

    def test_a_copy_of_what_is_on_other_boards(self):
        """A list expands what comes as a copy, whatever its boards are, and whatever the site's pattern lets."""
        desk = ListDesk(of("z@mill town.fish eve@quay", sites=(site(), site("mill", pattern="c"), site("quay"))), "mill")
        other = notice(boards=("a", "b"))
        self.assertEqual(desk.take(other), ())
        self.assertEqual(desk.hear(copy_to(other, "z@hill", "z@mill")), (copy_to(other, "z@mill", "eve@quay"),))

    def test_boxes(self):
        desk = ListDesk(of("z@mill town.fish"), "mill")
        self.assertEqual(desk.box("ann@mill"), ())
        for number, address in ((7, "l@hill"), (5, "l@hill"), (7, "m@hill"), (9, "m@quay"), (5, "l@hill")):
            self.assertEqual(desk.hear(copy_to(notice(id=("mill", number)), address, "ann@mill")), ())
        desk.hear(copy_to(notice(id=("mill", 6)), "l@hill", "bob@mill"))
        self.assertEqual(desk.box("ann@mill"), (("mill", 7), ("mill", 5), ("mill", 9)))
        self.assertEqual(desk.box("bob@mill"), (("mill", 6),))

    def test_all_boxes(self):
        """Copies that are carried by hand fill the boxes of just the members of members, with few copies."""
        chance = random.Random(39)
        filled = 0
        for _ in range(150):
            lists = drawn.draw_book(chance, stewards=0, lists=5)
            desks = {entry[1]: ListDesk(lists, entry[1]) for entry in lists[3]}
            posts = []
            for number in range(1, 4):
                name = chance.choice(lists[3])[1]
                whole = notice(id=(name, number), author=f"ann@{name}", boards=tuple(chance.sample(drawn.BOARDS, 2)),
                               kind=chance.choice((("post",), ("post",), ("strike", ("x", 1)))))
                posts.append((name, whole))
                many = 0
                takers = [taker for taker in desks if plainsites.taken(lists, [(name, whole)], taker)]
                letters = [letter for taker in takers for letter in desks[taker].take(whole)]
                while letters:
                    many += 1
                    letter = letters.pop(chance.randrange(len(letters)))
                    letters += desks[letter[2].split("@")[1]].hear(letter)
                self.assertLessEqual(many, sum(len(entry[3]) for entry in lists[7]))
            for name in desks:
                for person in drawn.PERSONS:
                    address = f"{person}@{name}"
                    told = plainsites.box(lists, posts, address)
                    self.assertEqual(tuple(sorted(desks[name].box(address))), told)
                    filled += len(told)
        self.assertGreater(filled, 50)
