import itertools
import random
import unittest

from criermoot.views import View, shown_of
from tests import plainsites
from tests.bookcase import BOOK, book, site
from tests.samples import notice

# The steward of boards town.sale* is ann@mill, of others town.* bob@hill; the site mill lets the boards town.* only.
BOARDS = ("town.fish", "town.sale", "a", "x", "town.none")


def post(number, date=10, author="eve@quay", boards=("town.fish",), kind=("post",), refs=()):
    return notice(id=(author.split("@")[1], number), author=author, date=date, boards=boards, kind=kind, refs=refs)


def hiding(word, other, number, author=None, **more):
    return post(number, kind=(word, other[1]), author=author or other[2], **more)


def shown_by_view(book, name, notices, clock, board):
    view = View(book, name)
    for one in notices:
        assert view.take(one) is None
    return view.shown(board, clock=clock)


def drawn_notices(chance, many=7):
    """Notices of which many name others to hide them, also in rings, and some by stewards."""
    ids = [(chance.choice(("quay", "hill", "mill")), number) for number in range(1, many + 1)]
    found = []
    for id in ids:
        other = chance.choice([one for one in ids if one != id])
        kind = chance.choice((("post",), ("strike", other), ("replace", other)))
        author = f"{chance.choice(('eve', 'ann', 'bob'))}@{id[0]}"
        boards = tuple(chance.sample(BOARDS[:4], chance.randrange(1, 4)))
        found.append(notice(id=id, author=author, date=chance.randrange(30), boards=boards, kind=kind))
    return found


class ShownTest(unittest.TestCase):
    def check(self, notices, told, clock=10, board="town.fish", name="hill", of=BOOK):
        for order in itertools.islice(itertools.permutations(notices), 200):
            self.assertEqual(shown_of(of, name, order, clock, board), told)
            self.assertEqual(shown_by_view(of, name, order, clock, board), told)
        self.assertIs(type(shown_of(of, name, tuple(notices), clock, board)), tuple)

    def test_order(self):
        one, two, three, four = post(5, 9), post(3), post(20), post(4, author="ann@hill")
        self.check([one, two, three, four], (one[1], four[1], two[1], three[1]))

    def test_nothing(self):
        self.check([], ())
        self.check([post(1)], (), board="town.none")

    def test_boards(self):
        one, two = post(1, boards=("town.fish", "a")), post(2, boards=("a", "town.sale"))
        self.check([one, two], (one[1],))
        self.check([one, two], (one[1], two[1]), board="a")
        self.check([one, two], (two[1],), board="town.sale")
        self.check([one, two], (), board="town")

    def test_pattern_of_the_site(self):
        """What a site has taken for one board is not shown on another one that its pattern does not let."""
        one = post(1, boards=("town.fish", "a", "x"))
        self.check([one], (one[1],), name="mill")
        self.check([one], (), name="mill", board="a")
        self.check([one], (one[1],), name="quay", board="a")
        self.check([one], (), name="quay", board="x")

    def test_term(self):
        of = book(sites=(site(term=90), site("mill", term=0), site("quay", term=5)))
        one = post(1, date=10)
        for name, last in (("hill", 100), ("mill", 10), ("quay", 15)):
            self.check([one], (one[1],), clock=0, name=name, of=of)
            self.check([one], (one[1],), clock=last, name=name, of=of)
            self.check([one], (), clock=last + 1, name=name, of=of)

    def test_strikes_are_not_shown(self):
        one = post(1)
        strike = hiding("strike", one, 2)
        self.check([one, strike], ())
        self.check([strike], ())
        self.check([one, hiding("strike", one, 2, "bob@quay")], (one[1],))

    def test_replacements(self):
        one = post(1)
        other = hiding("replace", one, 2)
        self.check([one, other], (other[1],))
        self.check([one, other, hiding("replace", other, 3)], (("quay", 3),))
        # The one in the middle hides, though it is hidden itself.
        self.check([one, other, hiding("strike", other, 3)], ())

    def test_rings(self):
        one = post(1, kind=("replace", ("quay", 3)))
        two = hiding("replace", one, 2)
        three = hiding("replace", two, 3)
        self.check([one, two, three], ())
        self.check([one, two], (("quay", 2),))
        self.check([two, three], (("quay", 3),))

    def test_a_strike_of_a_strike(self):
        one = post(1)
        strike = hiding("strike", one, 2)
        for word in ("strike", "replace"):
            other = hiding(word, strike, 3)
            self.check([one, strike, other], () if word == "strike" else (other[1],))
        other = hiding("strike", strike, 3, "bob@hill")
        self.check([one, strike, other], ())

    def test_stewards(self):
        one = post(1, boards=("town.fish", "town.sale"))
        for author in ("bob@hill", "ann@mill"):
            self.check([one, hiding("strike", one, 2, author)], ())
            other = hiding("replace", one, 2, author)
            self.check([one, other], tuple(sorted((one[1], other[1]))))

    def test_what_is_hidden_stays_so_when_the_strike_is_old(self):
        one = post(1, date=50)
        strike = hiding("strike", one, 2, date=0)
        self.check([one, strike], (), clock=120)

    def test_drawn(self):
        chance = random.Random(33)
        many = 0
        for _ in range(300):
            notices = drawn_notices(chance)
            clock, board, name = chance.randrange(80, 130), chance.choice(BOARDS), chance.choice(("hill", "mill", "quay"))
            told = plainsites.shown(BOOK, name, notices, clock, board)
            many += len(told)
            for _ in range(5):
                chance.shuffle(notices)
                self.assertEqual(shown_of(BOOK, name, tuple(notices), clock, board), told)
                # Some are told twice.
                again = notices + chance.choices(notices, k=4)
                chance.shuffle(again)
                self.assertEqual(shown_by_view(BOOK, name, again, clock, board), told)
        self.assertGreater(many, 100)


class ViewTest(unittest.TestCase):
    def test_asked_in_between(self):
        chance = random.Random(34)
        for _ in range(100):
            notices = drawn_notices(chance)
            view = View(BOOK, "hill")
            for many in range(len(notices) + 1):
                for board in BOARDS:
                    clock = chance.randrange(80, 130)
                    told = plainsites.shown(BOOK, "hill", notices[:many], clock, board)
                    self.assertEqual(view.shown(board, clock=clock), told)
                    self.assertEqual(view.shown(board, clock=clock), told)
                if many < len(notices):
                    self.assertIsNone(view.take(notices[many]))
                    self.assertIsNone(view.take(chance.choice(notices[:many + 1])))

    def test_a_strike_ahead_of_what_it_hides(self):
        one = post(1)
        view = View(BOOK, "hill")
        view.take(hiding("strike", one, 2))
        view.take(hiding("strike", one, 3, "eve@hill"))
        view.take(one)
        self.assertEqual(view.shown("town.fish", clock=0), ())
        view = View(BOOK, "hill")
        view.take(hiding("strike", one, 3, "eve@hill"))
        view.take(one)
        self.assertEqual(view.shown("town.fish", clock=0), (one[1],))
        view.take(hiding("strike", one, 2))
        self.assertEqual(view.shown("town.fish", clock=0), ())

    def test_the_clock_can_go_back(self):
        view = View(BOOK, "hill")
        view.take(post(1, date=10))
        self.assertEqual(view.shown("town.fish", clock=101), ())
        self.assertEqual(view.shown("town.fish", clock=100), (("quay", 1),))

    def test_views_are_apart(self):
        one, two = View(BOOK, "hill"), View(BOOK, "hill")
        one.take(post(1))
        self.assertEqual(two.shown("town.fish", clock=0), ())
        self.assertEqual(one.shown("town.fish", clock=0), (("quay", 1),))
