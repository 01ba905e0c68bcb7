"""[46], [47]: each act of a world, done where it can be and where it cannot, and what it returns."""

import unittest

from criermoot.errors import BadBook
from criermoot.sites import Site
from criermoot.world import World, depth
from tests import bookcase
from tests.sitecase import ANY, BODY, SMALL, small_book

# hill feeds mill, mill feeds hill and quay; far has no lines. Talks in other directions never begin.
FEEDS = ("hill>mill", "mill>hill", "mill>quay")
BOOK = small_book(*FEEDS, waits=(1, 8), far="*")
HM, MH = ("hill", "mill"), ("mill", "hill")
HOLD, PASS = ("hold",), ("pass",)


def post(address="ann@hill", boards=("a",), kind=("post",), body=SMALL, refs=()):
    return ("post", address, boards, "Fresh", refs, kind, body)


def world_with(*acts, book=BOOK):
    """A world in which some acts were done."""
    world = World(book)
    for _ in world.play(acts):
        pass
    return world


def words(world, giver, taker):
    """Says and hears the words of a talk one by one, and tells all that is said up to its end."""
    found = []
    while True:
        word = world.do(("say", giver, taker))
        if word is not None:
            found.append(word)
        elif world.do(("hear", giver, taker, "taker")) is None:
            word = world.do(("hear", giver, taker, "giver"))
            if word is None:
                return found
            found.append("< " + word)
        if world.underway(giver, taker) is None:
            return found


class NewWorldTest(unittest.TestCase):
    def test_bad_books(self):
        for part, wrong in (("window", 0), ("waits", (2, 1)), ("sites", ()), ("lines", (("hill", "hill"),)),
                            ("feeds", (bookcase.feed(hops=0),)), ("stewards", (("steward", "!", "ann@mill", ()),)),
                            ("lists", (("list", "l@nowhere", None, ()),))):
            with self.assertRaises(BadBook) as caught:
                World(bookcase.book(**{part: wrong}))
            self.assertEqual(caught.exception.part, part)

    def test_new(self):
        book = bookcase.BOOK
        world = World(book)
        self.assertEqual(world.time, 0)
        self.assertEqual([world.clock(name) for name in ("hill", "mill", "quay")], [0, 3, 50])
        for name in ("hill", "mill", "quay"):
            self.assertIs(world.is_up(name), True)
            self.assertEqual((world.taken(name), world.shown(name, "a")), ((), ()))
            self.assertEqual(world.since(name, "a", 0), ("since", 0, ()))
        for pair in (("hill", "mill"), ("mill", "hill"), ("hill", "quay")):
            self.assertIs(world.is_whole(*pair), True)
            self.assertIsNone(world.underway(*pair))
        self.assertEqual((world.twice(), world.posted(), world.box("ann@mill"), world.told("ann@mill"), world.held("ann@mill")),
                         ((), (), (), (), ()))
        self.assertEqual((world.bodies("hill", "mill", "1@hill"), world.cuts("hill", "mill", "1@hill")), (0, 0))
        self.assertIs(world.rests(), True)

    def test_time_is_a_property(self):
        self.assertIsInstance(World.time, property)

    def test_depth(self):
        self.assertEqual(depth(small_book("hill>mill")), 4)
        self.assertEqual(depth(BOOK), 8)
        self.assertEqual(depth(bookcase.BOOK), 3 * (3 * 3 + 4 + 2))
        self.assertEqual(depth(bookcase.book(stewards=())), 3 * 6)
        self.assertEqual(depth(bookcase.book(lists=())), 3 * 11)


class PostTest(unittest.TestCase):
    def test_post(self):
        world = World(bookcase.book(stewards=()))
        self.assertEqual(world.do(post("ann@quay")), ("quay", 1))
        self.assertEqual(world.do(post("bob@quay")), ("quay", 2))
        self.assertEqual(world.do(post("bob@mill", ("town.fish",))), ("mill", 1))
        told = [(origin, whole[1:4]) for origin, whole in world.posted()]
        self.assertEqual(told, [("quay", (("quay", 1), "ann@quay", 50)), ("quay", (("quay", 2), "bob@quay", 50)),
                                ("mill", (("mill", 1), "bob@mill", 3))])
        self.assertEqual(world.shown("quay", "a"), ((1, ("quay", 1)), (2, ("quay", 2))))

    def test_where_it_cannot_be(self):
        world = world_with(("fall", "hill"), book=small_book(*FEEDS, mill="b"))
        self.assertIsNone(world.do(post()))
        self.assertIsNone(world.do(post("ann@mill")))
        self.assertIsNone(world.do(post("ann@mill", ("b",), ("strike", ("hill", 1)))))
        self.assertEqual(world.posted(), ())
        world.do(("wake", "hill"))
        self.assertEqual(world.do(post()), ("hill", 1))

    def test_a_fall_amid_the_writes(self):
        world = world_with(("trip", "hill", 3, 1))
        self.assertIsNone(world.do(post()))
        self.assertIs(world.is_up("hill"), False)
        self.assertEqual((world.posted(), world.taken("hill")), ((), ()))
        world.do(("wake", "hill"))
        self.assertEqual(world.do(post()), ("hill", 1))

    def test_a_fall_behind_the_writes(self):
        """What is posted counts, but no id is told."""
        world = world_with(("trip", "hill", 99, 0))
        self.assertIsNone(world.do(post()))
        self.assertIs(world.is_up("hill"), False)
        self.assertEqual([whole[1] for _, whole in world.posted()], [("hill", 1)])
        self.assertEqual((world.taken("hill"), world.shown("hill", "a")), (((("hill", 1), 0),), ()))
        world.do(("wake", "hill"))
        self.assertEqual(world.shown("hill", "a"), ((1, ("hill", 1)),))
        self.assertEqual(world.do(post()), ("hill", 2))

    def test_order_of_posts(self):
        """Posts stand in the order in which they were posted or out."""
        stewards = (("steward", "b", "st@mill", ((ANY, HOLD),)),)
        world = world_with(post(boards=("b",)), post(), ("round",), post("eve@far"), ("verdict", "st@mill", ("hill", 1), PASS),
                           post("ann@mill"), book=small_book(*FEEDS, far="*", stewards=stewards))
        told = [(origin, whole[1]) for origin, whole in world.posted()]
        self.assertEqual(told, [("hill", ("hill", 2)), ("far", ("far", 1)), ("mill", ("hill", 1)), ("mill", ("mill", 1))])
        world.do(("fall", "mill"))
        self.assertEqual([(origin, whole[1]) for origin, whole in world.posted()], told)


class VerdictTest(unittest.TestCase):
    BOOK = small_book(*FEEDS, stewards=(("steward", "a", "st@mill", ((ANY, HOLD),)),))

    def test_verdict(self):
        world = world_with(post(), ("round",), book=self.BOOK)
        self.assertEqual(world.held("st@mill"), (("hill", 1),))
        for address, number in (("st@hill", 1), ("st@mill", 2), ("ann@mill", 1)):
            self.assertIsNone(world.do(("verdict", address, ("hill", number), PASS)))
        self.assertEqual(world.posted(), ())
        self.assertIsNone(world.do(("verdict", "st@mill", ("hill", 1), PASS)))
        self.assertEqual((len(world.posted()), world.held("st@mill")), (1, ()))
        world.do(("round",))
        self.assertEqual(world.told("ann@hill"), ((("hill", 1), ("out",)),))

    def test_at_a_site_that_is_down(self):
        world = world_with(post(), ("round",), ("fall", "mill"), book=self.BOOK)
        self.assertIsNone(world.do(("verdict", "st@mill", ("hill", 1), PASS)))
        self.assertEqual(world.held("st@mill"), ())
        world.do(("wake", "mill"))
        self.assertEqual((world.held("st@mill"), world.posted()), ((("hill", 1),), ()))


class WordsTest(unittest.TestCase):
    def test_a_whole_talk(self):
        world = world_with(post(body=BODY), post())
        told = words(world, *HM)
        rows = [word for word in told if word[:5] in ("Id: 1", "Id: 2")]
        self.assertEqual(rows, ["Id: 1@hill", "Id: 2@hill"])
        said = [word for word in told if word.split(" ")[0] in ("open", "offer", "body", "close", "<")]
        self.assertEqual(said, [
            "open hill mill", "< ready", "offer 1@hill 1 0", "offer 2@hill 1 0", "< want 1@hill", "body 1@hill", "< want 2@hill",
            "body 2@hill", "< took 1@hill", "< took 2@hill", "close", "< closed"])
        self.assertIsNone(world.underway(*HM))
        self.assertEqual(world.taken("mill"), ((("hill", 1), 1), (("hill", 2), 1)))
        self.assertIs(world.rests(), False)
        self.assertEqual(words(world, "mill", "quay")[0], "open mill quay")

    def test_words_underway(self):
        world = world_with(post())
        self.assertEqual(world.do(("say",) + HM), "open hill mill")
        self.assertEqual(world.underway(*HM), (("open hill mill",), ()))
        self.assertIsNone(world.underway(*MH))
        self.assertIsNone(world.do(("say",) + HM))
        self.assertIsNone(world.do(("hear",) + HM + ("giver",)))
        self.assertEqual(world.do(("hear",) + HM + ("taker",)), "open hill mill")
        self.assertEqual(world.underway(*HM), ((), ("ready",)))
        self.assertIsNone(world.do(("hear",) + HM + ("taker",)))
        self.assertEqual(world.do(("hear",) + HM + ("giver",)), "ready")
        self.assertEqual(world.underway(*HM), ((), ()))
        self.assertEqual(world.do(("say",) + HM), "offer 1@hill 1 0")
        self.assertEqual(world.underway(*HM), (("offer 1@hill 1 0",), ()))

    def test_where_no_talk_can_begin(self):
        world = world_with(post())
        for pair in (("mill", "hill"), ("hill", "quay"), ("hill", "far"), ("hill", "hill"), ("far", "far")):
            for word in ("say", "cut"):
                self.assertIsNone(world.do((word,) + pair))
            for side in ("giver", "taker"):
                self.assertIsNone(world.do(("hear",) + pair + (side,)))
            self.assertIs(world.do(("talk",) + pair), False)
            self.assertIsNone(world.underway(*pair))

    def test_the_window(self):
        """Four items are open at once."""
        world = world_with(*[post() for _ in range(6)])
        for act in (("say",) + HM, ("hear",) + HM + ("taker",), ("hear",) + HM + ("giver",)):
            world.do(act)
        told = [world.do(("say",) + HM) for _ in range(5)]
        self.assertEqual(told, [f"offer {number}@hill 1 0" for number in range(1, 5)] + [None])

    def test_items_of_the_beginning(self):
        """What comes into the queue while a talk goes on waits for the next one."""
        world = world_with(post(), ("say",) + HM, post())
        self.assertNotIn("offer 2@hill 1 0", words(world, *HM))
        self.assertEqual(world.taken("mill"), ((("hill", 1), 1),))
        self.assertIs(world.do(("talk",) + HM), True)
        self.assertEqual(len(world.taken("mill")), 2)

    def test_letters_and_clears(self):
        world = world_with(post(), book=VerdictTest.BOOK)
        told = words(world, *HM)
        self.assertIn("bring s:1@hill:0:0", told)
        self.assertNotIn("clear s:1@hill:0:0", told)
        self.assertIs(world.rests(), False)
        self.assertEqual(words(world, *HM), ["open hill mill", "< ready", "clear s:1@hill:0:0", "< cleared s:1@hill:0:0", "close", "< closed"])
        self.assertIs(world.rests(), True)

    def test_have_and_old(self):
        book = small_book(*FEEDS, window=2)
        world = world_with(post(), ("break",) + HM, ("tick",), ("tick",), ("mend",) + HM, ("talk",) + HM, book=book)
        self.assertEqual(world.taken("mill"), ((("hill", 1), 1),))
        # Back to where it comes from.
        self.assertIn("< have 1@hill", words(world, *MH))
        world = world_with(post(), ("break",) + HM, ("tick",), ("tick",), ("tick",), ("mend",) + HM, book=book)
        self.assertIn("< old 1@hill", words(world, *HM))
        self.assertEqual((world.taken("mill"), world.rests()), ((), True))

    def test_fewer_hops_amid_a_talk(self):
        """A notice whose hops become fewer while it is handed on is offered once more."""
        book = small_book("ash>bay", "bay>dell", "ash>cove", "cove>bay", ("bay>elm", "*", 2))
        world = world_with(post("ann@ash"), ("talk", "ash", "cove"), ("talk", "cove", "bay"), ("say", "bay", "dell"), book=book)
        self.assertEqual(world.taken("bay"), ((("ash", 1), 2),))
        world.do(("talk", "ash", "bay"))
        self.assertEqual(world.taken("bay"), ((("ash", 1), 1),))
        self.assertIn("offer 1@ash 3 0", words(world, "bay", "dell"))
        self.assertEqual(world.taken("dell"), ((("ash", 1), 3),))
        self.assertIn("offer 1@ash 2 0", words(world, "bay", "dell"))
        self.assertEqual(world.taken("dell"), ((("ash", 1), 2),))
        self.assertEqual(world.bodies("bay", "dell", "1@ash"), 1)
        # It comes to the queue of the feed whose hops it had passed.
        self.assertIs(world.do(("talk", "bay", "elm")), True)
        self.assertEqual(world.taken("elm"), ((("ash", 1), 2),))


class TalkTest(unittest.TestCase):
    def test_talk(self):
        world = World(BOOK)
        self.assertIs(world.do(("talk",) + HM), False)
        world.do(post())
        self.assertIs(world.do(("talk",) + HM), True)
        self.assertEqual(world.taken("mill"), ((("hill", 1), 1),))
        self.assertIs(world.do(("talk",) + HM), False)
        self.assertIsNone(world.underway(*HM))

    def test_a_talk_that_is_under_way_is_cut(self):
        world = world_with(post(), ("say",) + HM)
        self.assertIs(world.do(("talk",) + HM), True)
        self.assertIsNone(world.underway(*HM))
        world = world_with(post())
        for _ in range(6):
            world.do(("say",) + HM)
            world.do(("hear",) + HM + ("taker",))
            world.do(("hear",) + HM + ("giver",))
        self.assertEqual(world.cuts(*HM, "1@hill"), 0)
        self.assertIs(world.do(("talk",) + HM), True)
        self.assertEqual(world.cuts(*HM, "1@hill"), 1)

    def test_a_talk_whose_items_are_settled_is_cut_and_none_begins(self):
        world = world_with(post())
        while world.do(("say",) + HM) != "close":
            world.do(("hear",) + HM + ("taker",))
            world.do(("hear",) + HM + ("giver",))
        self.assertIs(world.do(("talk",) + HM), False)
        self.assertIsNone(world.underway(*HM))
        self.assertEqual(world.cuts(*HM, "1@hill"), 0)

    def test_sites_that_fall_in_it(self):
        for site in HM:
            for writes in (0, 1, 99):
                world = world_with(post(), ("trip", site, writes, 0))
                self.assertIs(world.do(("talk",) + HM), True)
                self.assertIs(world.is_up(site), False)
                self.assertIsNone(world.underway(*HM))
                taken = site == "hill" or writes == 99
                self.assertEqual(world.taken("mill"), ((("hill", 1), 1),) if taken else ())
                # The answer was heard if it is the giver who fell.
                self.assertEqual(world.cuts(*HM, "1@hill"), 0 if site == "hill" else 1)
                world.do(("wake", site))
                self.assertEqual(world.do(("talk",) + HM), site == "mill" or writes < 99)
                self.assertEqual(world.taken("mill"), ((("hill", 1), 1),))
                self.assertEqual(world.twice(), ())
                self.assertEqual(world.bodies(*HM, "1@hill"), 1 if taken else 2)

    def test_order_of_a_talk(self):
        """The taker hears all that is on its way before the giver hears the first answer."""
        world = world_with(post(), post(), post(), ("trip", "hill", 0, 0), ("talk",) + HM)
        self.assertIs(world.is_up("hill"), False)
        self.assertEqual(len(world.taken("mill")), 3)
        # The giver has said all it can before the taker hears: five items are not offered at once.
        world = world_with(*[post() for _ in range(6)], ("trip", "hill", 0, 0), ("talk",) + HM)
        self.assertEqual(len(world.taken("mill")), 4)
        world = world_with(post(), post(), ("trip", "mill", 0, 0), ("talk",) + HM)
        self.assertEqual([world.bodies(*HM, key) for key in ("1@hill", "2@hill")], [1, 1])

    def test_a_letter_that_has_come_is_not_taken_again(self):
        world = world_with(post(), ("trip", "hill", 0, 0), ("talk",) + HM, ("wake", "hill"), book=VerdictTest.BOOK)
        self.assertEqual(world.held("st@mill"), (("hill", 1),))
        world.do(("verdict", "st@mill", ("hill", 1), PASS))
        told = words(world, *HM)
        self.assertIn("< have s:1@hill:0:0", told)
        self.assertEqual((world.held("st@mill"), world.bodies(*HM, "s:1@hill:0:0")), ((), 1))
        self.assertIn("clear s:1@hill:0:0", words(world, *HM))

    def test_round(self):
        world = World(BOOK)
        self.assertIs(world.do(("round",)), False)
        world.do(post("ann@quay"))
        self.assertIs(world.do(("round",)), False)
        world.do(post())
        self.assertIs(world.do(("round",)), True)
        # In the order of a round mill has it ahead of its own talks.
        self.assertEqual(world.taken("quay"), ((("hill", 1), 2), (("quay", 1), 0)))
        self.assertIs(world.do(("round",)), False)

    def test_order_of_a_round(self):
        """The direction with the lesser giver first, so the other one brings nothing on in the same round."""
        world = world_with(post("ann@quay"), book=small_book("quay>mill", "mill>hill"))
        world.do(("round",))
        self.assertEqual([len(world.taken(name)) for name in ("quay", "mill", "hill")], [1, 1, 0])
        world.do(("round",))
        self.assertEqual(len(world.taken("hill")), 1)
        world = world_with(post("ann@mill"), ("break",) + HM, book=small_book("mill>hill"))
        self.assertIs(world.do(("round",)), False)


class CutTest(unittest.TestCase):
    def begun(self, steps=3):
        """A world with a talk whose item was offered, at the least."""
        world = world_with(post())
        for _ in range(steps):
            for act in (("say",) + HM, ("hear",) + HM + ("taker",), ("hear",) + HM + ("giver",)):
                world.do(act)
        return world

    def test_cut(self):
        world = world_with(post())
        self.assertIsNone(world.do(("cut",) + HM))
        world.do(("say",) + HM)
        self.assertIsNone(world.do(("cut",) + MH))
        self.assertIsNotNone(world.underway(*HM))
        self.assertIsNone(world.do(("cut",) + HM))
        self.assertIsNone(world.underway(*HM))
        self.assertIsNone(world.do(("hear",) + HM + ("taker",)))
        # The item was not offered yet.
        self.assertEqual(world.cuts(*HM, "1@hill"), 0)

    def test_counts(self):
        world = self.begun()
        self.assertEqual((world.bodies(*HM, "1@hill"), world.cuts(*HM, "1@hill")), (1, 0))
        world.do(("cut",) + HM)
        self.assertEqual((world.bodies(*HM, "1@hill"), world.cuts(*HM, "1@hill")), (1, 1))
        world.do(("talk",) + HM)
        self.assertEqual((world.bodies(*HM, "1@hill"), world.cuts(*HM, "1@hill")), (2, 1))
        for other in ((HM, "2@hill"), (MH, "1@hill")):
            self.assertEqual((world.bodies(*other[0], other[1]), world.cuts(*other[0], other[1])), (0, 0))

    def test_a_row_that_looks_like_a_word(self):
        """A row of a body that reads like the beginning of one is none."""
        world = world_with(post(body=("text", "plain", ("body 1@hill", "body 1@hill"))), ("talk",) + HM)
        self.assertEqual(world.bodies(*HM, "1@hill"), 1)

    def test_break(self):
        for pair in (HM, MH):
            world = self.begun()
            self.assertIsNone(world.do(("break",) + pair))
            self.assertEqual((world.is_whole(*HM), world.is_whole(*MH)), (False, False))
            self.assertIsNone(world.underway(*HM))
            self.assertEqual(world.cuts(*HM, "1@hill"), 1)
            self.assertIsNone(world.do(("say",) + HM))
            self.assertIs(world.do(("talk",) + HM), False)
            world.do(("break",) + HM)
            self.assertIsNone(world.do(("mend",) + pair))
            self.assertIs(world.is_whole(*HM), True)
            self.assertIs(world.do(("talk",) + HM), True)

    def test_break_cuts_both_directions(self):
        world = world_with(post(), post("ann@mill"), ("say",) + HM, ("say",) + MH, ("break",) + HM)
        self.assertEqual((world.underway(*HM), world.underway(*MH)), (None, None))

    def test_other_lines(self):
        world = self.begun()
        for act in (("break", "mill", "quay"), ("break", "hill", "quay"), ("mend", "hill", "quay"), ("break", "far", "hill"), ("mend",) + HM):
            self.assertIsNone(world.do(act))
        self.assertIsNotNone(world.underway(*HM))
        self.assertIs(world.is_whole("mill", "quay"), False)

    def test_fall(self):
        for site in HM:
            world = self.begun()
            self.assertIsNone(world.do(("fall", site)))
            self.assertIs(world.is_up(site), False)
            self.assertIsNone(world.underway(*HM))
            self.assertEqual(world.cuts(*HM, "1@hill"), 1)
            self.assertIs(world.do(("talk",) + HM), False)
            self.assertIsNone(world.do(("fall", site)))
            self.assertIsNone(world.do(("wake", site)))
            self.assertIs(world.do(("talk",) + HM), True)

    def test_a_fall_elsewhere(self):
        world = self.begun()
        world.do(("fall", "quay"))
        self.assertIsNotNone(world.underway(*HM))


class SiteTest(unittest.TestCase):
    def test_what_is_down(self):
        stewards = (("steward", "b", "st@hill", ((ANY, HOLD),)),)
        book = small_book(*FEEDS, stewards=stewards, lists=(("list", "l@hill", "a", ("ann@hill",)),))
        world = world_with(post(), post(boards=("b",)), post("ann@hill", ("b", "a")), book=book)
        asked = (lambda: world.shown("hill", "a"), lambda: world.box("ann@hill"), lambda: world.held("st@hill"),
                 lambda: world.since("hill", "a", 0))
        before = [ask() for ask in asked]
        self.assertNotIn((), before)
        taken = world.taken("hill")
        world.do(("fall", "hill"))
        self.assertEqual([ask() for ask in asked], [()] * 4)
        self.assertEqual((world.told("ann@hill"), world.taken("hill"), len(world.posted())), ((), taken, 1))
        self.assertIs(world.rests(), True)
        world.do(("wake", "hill"))
        self.assertEqual([ask() for ask in asked], before)
        self.assertIs(world.rests(), False)

    def test_wake_forgets(self):
        world = world_with(post(), ("fall", "hill"), *[("tick",)] * 6, book=small_book(*FEEDS, memory=3, term=5))
        world.do(("wake", "hill"))
        self.assertEqual(world.since("hill", "a", 0), ("since", 2, (("new", 1, ("hill", 1)), ("gone", 1))))
        self.assertEqual(world.clock("hill"), 6)

    def test_wake_what_is_up(self):
        world = world_with(post(), ("say",) + HM)
        self.assertIsNone(world.do(("wake", "hill")))
        self.assertIsNotNone(world.underway(*HM))

    def test_renew(self):
        world = world_with(post(), ("say",) + HM)
        self.assertIsNone(world.do(("renew", "hill")))
        self.assertEqual(world.shown("hill", "a"), ((1, ("hill", 1)),))
        self.assertIsNotNone(world.underway(*HM))
        world.do(("fall", "hill"))
        self.assertIsNone(world.do(("renew", "hill")))
        world.do(("wake", "hill"))
        self.assertEqual(world.shown("hill", "a"), ((1, ("hill", 1)),))

    def test_trips_count_in_renewals(self):
        for writes in (0, 3, 999):
            world = world_with(post(), ("trip", "hill", writes, 1))
            self.assertIsNone(world.do(("renew", "hill")))
            self.assertIs(world.is_up("hill"), False)
            world.do(("wake", "hill"))
            self.assertEqual(world.shown("hill", "a"), ((1, ("hill", 1)),))
            world.do(("renew", "hill"))
            self.assertIs(world.is_up("hill"), True)

    def test_trips_count_in_ticks(self):
        world = world_with(post(), ("trip", "hill", 0, 0), *[("tick",)] * 4, book=small_book("mill>hill", term=3))
        self.assertIs(world.is_up("hill"), False)
        self.assertEqual(world.time, 4)
        self.assertIs(world.is_up("mill"), True)

    def test_a_trip_stays_until_it_counts(self):
        world = world_with(("trip", "hill", 0, 0), ("tick",), post(boards=("a",), kind=("strike", ("hill", 9))))
        self.assertIs(world.is_up("hill"), True)
        self.assertIsNone(world.do(post()))
        self.assertIs(world.is_up("hill"), False)

    def test_trips_that_are_replaced(self):
        world = world_with(("trip", "hill", 0, 0), ("trip", "hill", 99, 0))
        self.assertIsNone(world.do(post()))
        self.assertEqual(len(world.posted()), 1)

    def test_a_fall_takes_a_trip_away(self):
        world = world_with(("trip", "hill", 0, 0), ("fall", "hill"), ("trip", "hill", 0, 0), ("wake", "hill"))
        self.assertEqual(world.do(post()), ("hill", 1))
        self.assertIs(world.is_up("hill"), True)

    def test_falls_of_the_taker(self):
        """The word is told, though the site falls in its deed; nobody hears the answer."""
        world = world_with(post(), ("trip", "mill", 0, 0))
        word = None
        while word != ".":
            world.do(("say",) + HM)
            word = world.do(("hear",) + HM + ("taker",))
            world.do(("hear",) + HM + ("giver",))
        self.assertIs(world.is_up("mill"), False)
        self.assertIsNone(world.underway(*HM))
        world = world_with(post(), ("trip", "hill", 0, 0))
        while word != "took 1@hill":
            world.do(("say",) + HM)
            world.do(("hear",) + HM + ("taker",))
            word = world.do(("hear",) + HM + ("giver",))
        self.assertIs(world.is_up("hill"), False)
        self.assertEqual(world.cuts(*HM, "1@hill"), 0)

    def test_its_disk_is_all_that_a_site_keeps(self):
        """A world whose sites fall and wake between all acts is the same as one in which they do not."""
        acts = (post(), post("ann@mill"), ("round",), ("tick",), post(kind=("strike", ("hill", 1))), ("round",), ("round",), ("tick",))
        one, other = World(BOOK), World(BOOK)
        for act in acts:
            self.assertEqual(one.do(act), other.do(act))
            for name in ("hill", "mill", "quay"):
                other.do(("fall", name))
                other.do(("wake", name))
                self.assertEqual(one.taken(name), other.taken(name))
                self.assertEqual(one.shown(name, "a"), other.shown(name, "a"))
                self.assertEqual(one.since(name, "a", 0), other.since(name, "a", 0))
        self.assertEqual(one.posted(), other.posted())


class PlayTest(unittest.TestCase):
    def test_play(self):
        acts = (post(), ("round",), ("round",), ("tick",), ("say",) + HM)
        told = [("hill", 1), True, False, None, None]
        self.assertEqual(list(World(BOOK).play(acts)), told)
        self.assertEqual(list(World(BOOK).play(list(acts))), told)
        self.assertEqual(list(World(BOOK).play(())), [])

    def test_acts_are_done_when_they_are_asked_for(self):
        world = World(BOOK)
        playing = world.play((("tick",), post(), ("tick",)))
        self.assertEqual(world.time, 0)
        self.assertIsNone(next(playing))
        self.assertEqual((world.time, world.posted()), (1, ()))
        self.assertEqual(next(playing), ("hill", 1))
        self.assertEqual(world.time, 1)
        world.do(("tick",))
        self.assertIsNone(next(playing))
        self.assertEqual(world.time, 3)
        self.assertRaises(StopIteration, next, playing)


class ReturnTest(unittest.TestCase):
    def test_none(self):
        world = World(BOOK)
        for act in (("verdict", "ann@hill", ("hill", 1), PASS), ("cut",) + HM, ("break",) + HM, ("mend",) + HM, ("trip", "hill", 1, 1),
                    ("fall", "hill"), ("trip", "hill", 1, 1), ("renew", "hill"), ("wake", "hill"), ("renew", "hill"), ("tick",)):
            self.assertIsNone(world.do(act))

    def test_sites_of_a_world_are_those_of_the_module(self):
        """A site that does the same deeds tells the same."""
        world, site = World(BOOK), Site(BOOK, "hill")
        world.do(post())
        site.post(0, "ann", ("a",), "Fresh", (), ("post",), SMALL)
        self.assertEqual((world.taken("hill"), world.shown("hill", "a")), (site.taken(), site.shown(0, "a")))
