import itertools
import random
import unittest

from criermoot.books import steward_of
from criermoot.rights import has_right, hidden
from tests.bookcase import BOOK
from tests.samples import notice

# The steward of boards town.sale* is ann@mill, of others town.* bob@hill, and of others *.x cid@hill.
FISH = notice(id=("quay", 1), author="eve@quay", boards=("town.fish", "a"))
SALE = notice(id=("quay", 2), author="eve@quay", boards=("b", "town.sale", "c.x"))


def hides(word, other, author, number=9, **more):
    """A strike or a replacement of a notice."""
    return notice(id=(author.split("@")[1], number), author=author, kind=(word, other[1]), **more)


class RightTest(unittest.TestCase):
    def check(self, one, other, told):
        self.assertIs(has_right(BOOK, one, other), told, (one, other))

    def test_authors(self):
        for word in ("strike", "replace"):
            for other in (FISH, SALE):
                self.check(hides(word, other, "eve@quay"), other, True)
                for author in ("ann@quay", "eve@hill", "eva@quay", "eve@mill"):
                    self.check(hides(word, other, author), other, False)

    def test_stewards(self):
        for author, fish, sale in (("bob@hill", True, False), ("ann@mill", False, True), ("cid@hill", False, True),
                                   ("bob@mill", False, False), ("ann@hill", False, False)):
            self.check(hides("strike", FISH, author), FISH, fish)
            self.check(hides("strike", SALE, author), SALE, sale)
            self.check(hides("replace", FISH, author), FISH, False)
            self.check(hides("replace", SALE, author), SALE, False)

    def test_the_first_steward_of_a_board(self):
        # The pattern of bob@hill lets town.sale, too, but the steward of that board is ann@mill.
        post = notice(id=("quay", 3), author="eve@quay", boards=("town.sale",))
        self.check(hides("strike", post, "bob@hill"), post, False)
        self.check(hides("strike", post, "ann@mill"), post, True)
        post = notice(id=("quay", 3), author="eve@quay", boards=("quay",))
        for author in ("bob@hill", "ann@mill", "cid@hill"):
            self.check(hides("strike", post, author), post, False)

    def test_boards_of_the_strike_do_not_count(self):
        post = notice(id=("quay", 3), author="eve@quay", boards=("quay",))
        self.check(hides("strike", post, "bob@hill", boards=("town.fish",)), post, False)
        self.check(hides("strike", FISH, "bob@hill", boards=("quay",)), FISH, True)

    def test_posts(self):
        self.check(notice(id=("quay", 9), author="eve@quay"), FISH, False)
        self.check(notice(id=("quay", 9), author="eve@quay", refs=(FISH[1],)), FISH, False)
        self.check(FISH, FISH, False)

    def test_other_ids(self):
        for word in ("strike", "replace"):
            self.check(hides(word, SALE, "eve@quay"), FISH, False)
            self.check(hides(word, notice(id=("hill", 1)), "eve@quay"), FISH, False)
            self.check(hides(word, notice(id=("quay", 11)), "eve@quay"), FISH, False)

    def test_strikes_are_not_hidden(self):
        strike = hides("strike", SALE, "eve@quay", number=3, boards=("town.fish",))
        for word in ("strike", "replace"):
            for author in ("eve@quay", "bob@hill"):
                self.check(hides(word, strike, author), strike, False)

    def test_replacements_are_hidden(self):
        other = hides("replace", SALE, "eve@quay", number=3, boards=("town.fish",))
        self.check(hides("strike", other, "eve@quay"), other, True)
        self.check(hides("replace", other, "eve@quay"), other, True)
        self.check(hides("strike", other, "bob@hill"), other, True)
        self.check(hides("replace", other, "bob@hill"), other, False)

    def test_no_stewards(self):
        book = BOOK[:6] + ((),) + BOOK[7:]
        self.assertIs(has_right(book, hides("strike", FISH, "bob@hill"), FISH), False)
        self.assertIs(has_right(book, hides("strike", FISH, "eve@quay"), FISH), True)


class HiddenTest(unittest.TestCase):
    def check(self, notices, told):
        for order in itertools.permutations(notices):
            self.assertEqual(hidden(BOOK, order), told)
            self.assertIs(type(hidden(BOOK, order)), tuple)

    def test_few_notices(self):
        self.check((), ())
        self.check((FISH, SALE), ())
        strike = hides("strike", FISH, "eve@quay")
        self.check((FISH, strike), (FISH[1],))
        self.check((strike,), ())
        self.check((SALE, strike), ())
        self.check((FISH, SALE, hides("replace", SALE, "eve@quay")), (SALE[1],))
        self.check((FISH, SALE, hides("replace", SALE, "bob@hill")), ())
        self.check((SALE, FISH, hides("replace", SALE, "eve@quay"), strike[:1] + (("quay", 10),) + strike[2:]), (FISH[1], SALE[1]))
        self.check((FISH, strike, hides("strike", FISH, "bob@hill")), (FISH[1],))

    def test_what_hides_is_hidden(self):
        one = hides("replace", FISH, "eve@quay", number=5)
        two = hides("replace", one, "eve@quay", number=6)
        three = hides("strike", two, "eve@quay", number=7)
        self.check((FISH, one, two, three), (FISH[1], one[1], two[1]))
        self.check((FISH, one, two), (FISH[1], one[1]))
        self.check((FISH, two, three), (two[1],))
        # Two that hide each other.
        back = notice(id=FISH[1], author="eve@quay", kind=("replace", one[1]))
        self.check((back, one), (FISH[1], one[1]))

    def test_struck_strikes(self):
        strike = hides("strike", FISH, "eve@quay", number=5)
        self.check((FISH, strike, hides("strike", strike, "eve@quay", number=6)), (FISH[1],))
        self.check((strike, hides("replace", strike, "eve@quay", number=6)), ())

    def test_order_of_ids(self):
        posts = [notice(id=(site, number), author=f"eve@{site}") for site in ("a", "b") for number in (2, 10)]
        strikes = [hides("strike", post, post[2], number=20 + at) for at, post in enumerate(posts)]
        self.assertEqual(hidden(BOOK, tuple(strikes + posts)), (("a", 2), ("a", 10), ("b", 2), ("b", 10)))

    def test_by_the_meaning(self):
        chance = random.Random(50)
        authors = ("eve@quay", "ann@mill", "bob@hill", "cid@hill")
        for _ in range(150):
            notices = []
            for number in range(1, chance.randrange(2, 9)):
                author = chance.choice(authors)
                kind = ("post",)
                if notices and chance.random() < 0.7:
                    kind = (chance.choice(("strike", "replace")), chance.choice(notices)[1])
                boards = tuple(chance.sample(("town.fish", "town.sale", "a.x", "quay"), chance.randrange(1, 3)))
                notices.append(notice(id=(author.split("@")[1], number), author=author, kind=kind, boards=boards))
            told = set()
            for one, other in itertools.product(notices, repeat=2):
                right = one[7][1:] == (other[1],) and other[7][0] != "strike" and (one[2] == other[2] or (
                    one[7][0] == "strike" and one[2] in [steward_of(BOOK, board) for board in other[4]]))
                self.assertIs(has_right(BOOK, one, other), right)
                if right:
                    told.add(other[1])
            self.assertEqual(hidden(BOOK, tuple(notices)), tuple(sorted(told)))
