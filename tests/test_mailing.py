"""[36] to [40], [43]: submissions, notes, copies and hands at a single site."""

import unittest

from criermoot.blocks import pieces
from criermoot.letters import copy_to, note_to, submission
from criermoot.sites import Site
from tests.sitecase import ANY, SMALL, keys_for, post, posting, small_book, taken_by

# A chain ash - hill - mill - quay, on which all is fed; far is a site without lines.
CHAIN = ("ash>hill", "hill>ash", "hill>mill", "mill>hill", "mill>quay", "quay>mill")
PASS, HOLD, REFUSE = ("pass",), ("hold",), ("refuse", "fish")


def steward(board, address, verdict=PASS):
    return ("steward", board, address, ((ANY, verdict),))


def of(*entries, **parts):
    """The chain with these stewards and lists."""
    stewards = [entry for entry in entries if entry[0] == "steward"]
    return small_book(*CHAIN, stewards=stewards, lists=[entry for entry in entries if entry[0] == "list"], far="*", **parts)


def sealed(whole, *seals):
    return whole[:8] + (seals,) + whole[9:]


def told_letters(site, neighbour):
    """The letters in a queue, as their pieces tell them."""
    return tuple(item[2] for item in site.items_for(neighbour) if item[0] == "letter")


def mine(number=1, name="mill", boards=("a",), clock=5, kind=("post",)):
    """The notice that `posting` makes."""
    return ("notice", (name, number), f"ann@{name}", clock, boards, "", (), kind, (), SMALL)


class SubmitTest(unittest.TestCase):
    def test_to_another_site(self):
        book = of(steward("a", "st@ash"))
        site = Site(book, "mill")
        self.assertEqual(site.post(*posting()), ("mill", 1))
        letter = submission(book, mine())
        self.assertEqual(site.items_for("hill"), (("letter", "s:1@mill:0:0", pieces(letter)),))
        self.assertEqual(site.known(), {})
        self.assertEqual((site.posted(), site.taken(), site.shown(5, "a")), ((), (), ()))
        self.assertEqual(keys_for(site, "quay"), [])
        # The id is used.
        self.assertEqual(site.post(*posting(boards=("b",))), ("mill", 2))

    def test_on_the_way(self):
        book = of(steward("a", "st@ash"))
        letter = submission(book, mine())
        site = Site(book, "hill")
        self.assertIsNone(site.keep(9, "mill", letter[1], letter))
        self.assertEqual(site.items_for("ash"), (("letter", letter[1], pieces(letter)),))
        self.assertEqual(site.kept_from("mill"), (letter[1],))
        self.assertEqual(site.held("st@ash"), ())

    def test_passed_at_its_goal(self):
        book = of(steward("a", "st@ash"), steward("b", "su@ash"), steward("c", "sv@quay"))
        site = Site(book, "ash")
        whole = mine(boards=("a", "b"))
        letter = submission(book, whole)
        site.keep(9, "hill", letter[1], letter)
        out = sealed(whole, "st@ash", "su@ash")
        self.assertEqual(site.posted(), (out,))
        self.assertEqual(site.known(), {("mill", 1): 0})
        self.assertEqual(site.shown(9, "b"), ((1, ("mill", 1)),))
        self.assertEqual(keys_for(site, "hill"), ["1@mill", "n:1@mill"])
        self.assertEqual(told_letters(site, "hill"), (pieces(note_to(out, ("out",))),))
        # A seal of another site is still missing.
        site = Site(book, "ash")
        whole = mine(boards=("a", "c"))
        letter = submission(book, whole)
        site.keep(9, "hill", letter[1], letter)
        self.assertEqual((site.posted(), keys_for(site, "hill")), ((), ["s:1@mill:1:0"]))
        self.assertEqual(told_letters(site, "hill"), (pieces(submission(book, sealed(whole, "st@ash"))),))

    def test_refused_at_its_goal(self):
        book = of(steward("a", "st@ash", REFUSE))
        site = Site(book, "ash")
        site.keep(9, "hill", "s:1@mill:0:0", submission(book, mine()))
        self.assertEqual((site.posted(), site.taken()), ((), ()))
        self.assertEqual(told_letters(site, "hill"), (pieces(note_to(mine(), ("refused", "fish"))),))

    def test_all_at_one_site(self):
        """What is decided at the site where it is posted is done in the same deed."""
        for verdict, told in ((PASS, ("out",)), (REFUSE, ("refused", "fish")), (("send", "no@mill"), ("refused", "nobody"))):
            site = Site(of(steward("a", "st@mill", verdict)), "mill")
            self.assertEqual(site.post(*posting()), ("mill", 1))
            self.assertEqual(site.told("ann@mill"), ((("mill", 1), told),))
            self.assertEqual(len(site.ledger.contents()), 1)
            self.assertEqual([whole[8] for whole in site.posted()], [("st@mill",)] if told == ("out",) else [])
            self.assertEqual(keys_for(site, "hill"), ["1@mill"] if told == ("out",) else [])

    def test_sent_on(self):
        book = of(steward("a", "st@mill", ("send", "su@mill")), steward("b", "su@mill", ("send", "sv@quay")),
                  steward("c", "sv@quay", ("send", "st@mill")))
        site = Site(book, "mill")
        site.post(*posting())
        letter = ("letter", "s:1@mill:0:2", "sv@quay", ("submit", mine(), "st@mill", ("st@mill", "su@mill")))
        self.assertEqual(told_letters(site, "quay"), (pieces(letter),))
        site = Site(book, "quay")
        site.keep(5, "mill", letter[1], letter)
        self.assertEqual(told_letters(site, "mill"), (pieces(note_to(mine(), ("refused", "ring"))),))

    def test_late_at_the_edge(self):
        book = of(steward("a", "st@ash"), steward("b", "su@ash", HOLD))
        for clock, told in ((55, ("out",)), (56, ("refused", "late"))):
            site = Site(book, "ash")
            site.keep(clock, "hill", "s:1@mill:0:0", submission(book, mine()))
            self.assertEqual(told_letters(site, "hill")[-1], pieces(note_to(mine(), told)))
        # What is held becomes late, too.
        whole = mine(boards=("b",))
        for clock, told in ((55, ("out",)), (56, ("refused", "late"))):
            site = Site(book, "ash")
            site.keep(9, "hill", "s:1@mill:0:0", submission(book, whole))
            self.assertIs(site.decide(clock, "su@ash", ("mill", 1), PASS), True)
            self.assertEqual(told_letters(site, "hill")[-1], pieces(note_to(whole, told)))
        site = Site(book, "ash")
        site.keep(56, "hill", "s:1@mill:0:0", submission(book, whole))
        self.assertEqual((site.held("su@ash"), len(told_letters(site, "hill"))), ((), 1))

    def test_out_where_it_is_not_carried(self):
        """It is taken nowhere, but its author is told that it is out."""
        book = of(steward("a", "st@ash"), ash="b")
        site = Site(book, "ash")
        site.keep(9, "hill", "s:1@mill:0:0", submission(book, mine()))
        self.assertEqual((site.posted(), site.taken(), site.known(), keys_for(site, "hill")), ((), (), {}, ["n:1@mill"]))
        self.assertEqual(told_letters(site, "hill"), (pieces(note_to(mine(), ("out",))),))

    def test_nowhere(self):
        book = of(steward("a", "st@far"), steward("b", "su@ash"), steward("c", "sv@ash", ("send", "st@far")))
        site = Site(book, "mill")
        self.assertEqual(site.post(*posting()), ("mill", 1))
        self.assertEqual(site.told("ann@mill"), ((("mill", 1), ("refused", "nowhere")),))
        # From the site of a steward: the second seal, and what is sent on.
        for boards in (("b", "a"), ("c",)):
            site = Site(book, "ash")
            site.keep(9, "hill", "s:1@mill:0:0", submission(book, mine(boards=boards)))
            self.assertEqual(told_letters(site, "hill"), (pieces(note_to(mine(boards=boards), ("refused", "nowhere"))),))
        site = Site(book, "far")
        site.post(*posting(boards=("b",)))
        self.assertEqual(site.told("ann@far"), ((("far", 1), ("refused", "nowhere")),))

    def test_a_note_without_a_way_is_dropped(self):
        book = small_book("hill>mill", stewards=[steward("a", "st@hill", HOLD)], far="*")
        site = Site(book, "hill")
        whole = mine(name="far")
        site.keep(5, "mill", "s:1@far:0:0", submission(book, whole))
        self.assertIs(site.decide(5, "st@hill", ("far", 1), PASS), True)
        self.assertEqual((len(site.posted()), keys_for(site, "mill"), site.told("ann@far")), (1, ["1@far"], ()))

    def test_strikes_need_no_seals(self):
        book = of(steward("a", "st@ash"))
        site = taken_by(book, "mill", post(1, seals=("st@ash",)))
        site.post(*posting(person="eve", kind=("strike", ("quay", 1))))
        self.assertEqual(keys_for(site, "hill"), ["1@quay", "1@mill"])
        self.assertEqual(len(site.posted()), 1)
        site.post(*posting(person="eve", kind=("replace", ("quay", 1))))
        self.assertEqual(keys_for(site, "hill"), ["1@quay", "1@mill", "s:2@mill:0:0"])
        self.assertEqual(len(site.posted()), 1)


class HandTest(unittest.TestCase):
    def setUp(self):
        self.book = of(steward("a", "st@ash", HOLD), steward("b", "su@ash", HOLD), steward("c", "sv@ash"))
        self.site = Site(self.book, "ash")
        for number, boards in ((7, ("a",)), (3, ("a", "b")), (5, ("b",))):
            self.site.keep(9, "hill", f"s:{number}@mill:0:0", submission(self.book, mine(number, boards=boards)))

    def test_held(self):
        self.assertEqual(self.site.held("st@ash"), (("mill", 3), ("mill", 7)))
        self.assertEqual(self.site.held("su@ash"), (("mill", 5),))
        self.assertEqual(self.site.held("sv@ash"), ())
        self.assertEqual(keys_for(self.site, "hill"), [])

    def test_what_is_not_held(self):
        disk = self.site.ledger.disk
        for address, number in (("su@ash", 3), ("st@ash", 5), ("sv@ash", 3), ("ann@ash", 3), ("st@ash", 4)):
            self.assertIs(self.site.decide(9, address, ("mill", number), PASS), False)
        self.assertEqual(self.site.ledger.disk, disk)

    def test_pass(self):
        self.assertIs(self.site.decide(9, "st@ash", ("mill", 7), PASS), True)
        self.assertEqual(self.site.held("st@ash"), (("mill", 3),))
        self.assertEqual([whole[8] for whole in self.site.posted()], [("st@ash",)])
        self.assertIs(self.site.decide(9, "st@ash", ("mill", 7), PASS), False)

    def test_the_next_steward_holds_it(self):
        self.assertIs(self.site.decide(9, "st@ash", ("mill", 3), PASS), True)
        self.assertEqual((self.site.held("st@ash"), self.site.held("su@ash")), ((("mill", 7),), (("mill", 3), ("mill", 5))))
        self.assertIs(self.site.decide(9, "su@ash", ("mill", 3), PASS), True)
        self.assertEqual([whole[8] for whole in self.site.posted()], [("st@ash", "su@ash")])

    def test_refuse(self):
        self.assertIs(self.site.decide(9, "su@ash", ("mill", 5), ("refuse", "why")), True)
        self.assertEqual(told_letters(self.site, "hill"), (pieces(note_to(mine(5, boards=("b",)), ("refused", "why"))),))

    def test_send(self):
        self.assertIs(self.site.decide(9, "st@ash", ("mill", 7), ("send", "su@ash")), True)
        self.assertEqual((self.site.held("st@ash"), self.site.held("su@ash")), ((("mill", 3),), (("mill", 5), ("mill", 7))))
        self.assertIs(self.site.decide(9, "su@ash", ("mill", 7), ("send", "st@ash")), True)
        self.assertEqual(told_letters(self.site, "hill"), (pieces(note_to(mine(7), ("refused", "ring"))),))
        # The one to whom it is sent passes it, for the seal of the one who sent it.
        self.assertIs(self.site.decide(9, "st@ash", ("mill", 3), ("send", "sv@ash")), True)
        self.assertEqual((self.site.held("st@ash"), self.site.held("su@ash")), ((), (("mill", 3), ("mill", 5))))
        self.site.decide(9, "su@ash", ("mill", 3), PASS)
        self.assertEqual([whole[8] for whole in self.site.posted()], [("st@ash", "su@ash")])

    def test_hold(self):
        disk = self.site.ledger.disk
        self.assertIs(self.site.decide(9, "st@ash", ("mill", 7), HOLD), True)
        self.assertEqual(self.site.held("st@ash"), (("mill", 3), ("mill", 7)))
        self.assertEqual(self.site.ledger.disk, disk)


class LetterTest(unittest.TestCase):
    def test_notes(self):
        site = Site(of(), "mill")
        for number, told in ((3, ("out",)), (1, ("refused", "late"))):
            letter = note_to(mine(number), told)
            site.keep(9, "hill", letter[1], letter)
        self.assertEqual(site.told("ann@mill"), ((("mill", 3), ("out",)), (("mill", 1), ("refused", "late"))))
        self.assertEqual(site.told("bob@mill"), ())
        self.assertEqual(site.kept_from("hill"), ("n:3@mill", "n:1@mill"))

    def test_keys_kept_and_cleared(self):
        site = Site(of(), "mill")
        for number in (3, 1, 2):
            site.keep(9, "hill", f"n:{number}@mill", note_to(mine(number), ("out",)))
        self.assertEqual((site.kept_from("hill"), site.kept_from("quay")), (("n:3@mill", "n:1@mill", "n:2@mill"), ()))
        disk = site.ledger.disk
        for neighbour, key in (("quay", "n:1@mill"), ("hill", "n:4@mill")):
            self.assertIsNone(site.cleared(neighbour, key))
        self.assertEqual(site.ledger.disk, disk)
        site.cleared("hill", "n:1@mill")
        self.assertEqual(site.kept_from("hill"), ("n:3@mill", "n:2@mill"))
        self.assertEqual(len(site.told("ann@mill")), 3)

    def test_letters_that_are_settled(self):
        for result in ("took", "have"):
            site = Site(of(), "hill")
            for number in (3, 1, 2):
                site.keep(9, "ash", f"n:{number}@mill", note_to(mine(number), ("out",)))
            self.assertEqual(keys_for(site, "mill"), ["n:3@mill", "n:1@mill", "n:2@mill"])
            self.assertIsNone(site.settle(9, "mill", "n:1@mill", result, 0))
            site.settle(9, "mill", "n:3@mill", result, 0)
            self.assertEqual((keys_for(site, "mill"), site.clears_for("mill")), (["n:2@mill"], ("n:1@mill", "n:3@mill")))
            self.assertEqual(site.kept_from("ash"), ("n:3@mill", "n:1@mill", "n:2@mill"))
            site.settle(9, "mill", "n:1@mill", "cleared", 0)
            self.assertEqual(site.clears_for("mill"), ("n:3@mill",))
            disk = site.ledger.disk
            site.settle(9, "mill", "n:1@mill", "cleared", 0)
            site.settle(9, "mill", "n:2@mill", "spoilt", 0)
            self.assertEqual((keys_for(site, "mill"), site.clears_for("mill")), (["n:2@mill"], ("n:3@mill",)))
            self.assertEqual(site.ledger.disk, disk)


class CopyTest(unittest.TestCase):
    def test_expanding(self):
        book = of(("list", "l@mill", "a", ("bob@ash", "m@mill", "eve@far", "cid@quay", "dan@mill")),
                  ("list", "m@mill", None, ("cid@mill", "bob@ash", "l@mill")), ("list", "k@mill", "b", ("bob@ash",)))
        site = taken_by(book, "mill", post(1, boards=("b", "a")))
        self.assertEqual(keys_for(site, "hill"), ["1@quay", "c:1@quay:l@mill:bob@ash", "c:1@quay:k@mill:bob@ash", "c:1@quay:m@mill:bob@ash"])
        self.assertEqual(keys_for(site, "quay"), ["1@quay", "c:1@quay:l@mill:cid@quay"])
        self.assertEqual((site.box("dan@mill"), site.box("cid@mill"), site.box("m@mill")), ((("quay", 1),), (("quay", 1),), ()))
        whole = post(1, boards=("b", "a"))
        self.assertEqual(told_letters(site, "quay"), (pieces(copy_to(whole, "l@mill", "cid@quay")),))
        site.take(10, 1, post(2, kind=("strike", ("x", 1))))
        self.assertEqual(keys_for(site, "quay")[2:], ["2@quay"])

    def test_copies_that_come(self):
        book = of(("list", "l@mill", None, ("bob@ash", "dan@mill")))
        site = Site(book, "mill")
        for number, address in ((2, "l@mill"), (1, "dan@mill"), (2, "dan@mill"), (2, "l@mill")):
            letter = copy_to(post(number), f"x{number}@ash", address)
            site.keep(9, "hill" if number == 2 else "quay", letter[1], letter)
        self.assertEqual(site.box("dan@mill"), (("quay", 2), ("quay", 1)))
        self.assertEqual(keys_for(site, "hill"), ["c:2@quay:l@mill:bob@ash"])
        self.assertEqual((site.known(), site.taken()), ({}, ()))

    def test_boxes_are_filled_in_the_order_of_the_copies(self):
        """Copies of one deed are handled behind those that were made before."""
        book = of(("list", "l@mill", "a", ("m@mill", "n@mill")), ("list", "m@mill", None, ("o@mill",)),
                  ("list", "n@mill", None, ("cid@mill", "dan@mill")), ("list", "o@mill", None, ("dan@mill", "bob@ash")))
        site = taken_by(book, "mill", post(1))
        self.assertEqual(keys_for(site, "hill"), ["1@quay", "c:1@quay:o@mill:bob@ash"])
        self.assertEqual(site.box("dan@mill"), (("quay", 1),))

    def test_a_note_is_made_behind_the_copies(self):
        book = of(("list", "l@ash", "a", ("bob@mill",)), steward("a", "st@ash"))
        site = Site(book, "ash")
        site.keep(9, "hill", "s:1@mill:0:0", submission(book, mine()))
        self.assertEqual(keys_for(site, "hill"), ["1@mill", "c:1@mill:l@ash:bob@mill", "n:1@mill"])
