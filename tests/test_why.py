import random
import unittest

from criermoot.books import site_of
from criermoot.notices import size_of
from criermoot.plainworld import PlainWorld
from criermoot.reach import hops_of
from criermoot.why import judge_why, why
from tests import drawn, plainreach, plainsites
from tests.sitecase import hiding, post, small_book
from tests.test_plainworld import draw_notices

# quay is reached over mill, dell over hill and mill; far is not reached.
BOOK = small_book("hill>mill", "mill>quay", "hill>dell", ("mill>dell", "*,!s"), term=20, far="*", quay="*,!b")
ONE, ID = post(1, boards=("a", "b")), ("quay", 1)
STRIKE = hiding("strike", ONE, 2, boards=("s",))
OTHER = hiding("replace", ONE, 3)
POSTS = (("hill", ONE), ("mill", STRIKE))
NONE = (None,) * 5


def kind_of(posted):
    return ("kind", posted[0], posted[1][4], size_of(posted[1]))


def labels(posted):
    return hops_of(BOOK, kind_of(posted))


class JudgeTest(unittest.TestCase):
    def judge(self, paper, site="quay", board="a", clock=30, id=ID, posts=POSTS):
        told = judge_why(BOOK, posts, clock, site, board, id, paper)
        self.assertIn(told, (True, False))
        self.assertIs(type(told), bool)
        return told

    def right(self, paper, **more):
        self.assertIs(self.judge(paper, **more), True, paper)

    def wrong(self, paper, **more):
        self.assertIs(self.judge(paper, **more), False, paper)

    def test_unknown(self):
        for id in (("quay", 9), ("hill", 1)):
            self.right(("unknown",), id=id)
            self.right(("unknown",), id=id, posts=())
            for paper in (("not here",), ("never", NONE), ("over", ("hill",)), ("hidden", ("hill",), ID, ("hill",)), ("shown", ("hill",), ())):
                self.wrong(paper, id=id)
        self.wrong(("unknown",))
        self.wrong(("unknown",), site="far")

    def test_not_here(self):
        self.right(("not here",), board="c")
        self.right(("not here",), board="b")
        self.wrong(("not here",), board="b", site="mill")
        self.wrong(("not here",))
        self.right(("not here",), id=STRIKE[1], board="s", site="mill")
        self.right(("not here",), board="c", site="far", clock=99)

    def test_never(self):
        told = labels(POSTS[0])
        names = [entry[1] for entry in BOOK[3]]
        self.assertEqual((names, told), (["dell", "far", "hill", "mill", "quay"], (1, None, 0, 1, 2)))
        self.right(("never", told), site="far")
        # Also where it is not on the board, and other labels that bound the hops.
        self.right(("never", told), site="far", board="c", clock=99)
        self.right(("never", (0, None, 0, 0, 0)), site="far")
        self.right(("never", (1, None, 0, 1, 1)), site="far")
        self.wrong(("never", told))
        for wrong in (NONE, (2, None, 0, 1, 2), (1, None, 0, 1, None), (1, None, 1, 1, 2), (1, 7, 0, 1, 2), told[:4], told + (None,), (),
                      (-1, None, 0, 1, 2)):
            self.wrong(("never", wrong), site="far")

    def test_over(self):
        self.right(("over", ("hill", "mill", "quay")), clock=31)
        self.wrong(("over", ("hill", "mill", "quay")), clock=30)
        self.right(("over", ("hill", "mill", "dell")), clock=31, site="dell")
        self.right(("over", ("hill", "mill", "quay")), clock=31, board="c")
        for way in (("hill", "quay"), ("mill", "quay"), ("hill", "mill"), (), ("hill", "mill", "quay", "mill"), ("nobody",), ("hill",) * 600):
            self.wrong(("over", way), clock=31)

    def test_hidden(self):
        way, other = ("hill", "mill", "quay"), ("mill", "quay")
        self.right(("hidden", way, STRIKE[1], other))
        self.right(("hidden", way, STRIKE[1], other), clock=99, board="c")
        for wrong in (("hidden", ("hill", "quay"), STRIKE[1], other), ("hidden", way, STRIKE[1], ("hill", "mill", "quay")),
                      ("hidden", way, STRIKE[1], ("mill",)), ("hidden", way, ID, way), ("hidden", way, ("quay", 9), other),
                      ("hidden", way, ("x", -5), other), ("hidden", way, STRIKE[1], ())):
            self.wrong(wrong)
        # The strike does not pass the feed to dell, and one of somebody else has no right.
        self.wrong(("hidden", ("hill", "dell"), STRIKE[1], ("mill", "dell")), site="dell")
        posts = (POSTS[0], ("mill", hiding("strike", ONE, 2, "bob@quay", boards=("s",))))
        self.wrong(("hidden", way, STRIKE[1], other), posts=posts)

    def test_shown(self):
        bars = ((STRIKE[1], labels(POSTS[1])),)
        self.assertEqual(bars[0][1], (None, None, None, 0, 1))
        self.right(("shown", ("hill", "dell"), bars), site="dell")
        self.right(("shown", ("hill", "mill", "dell"), bars), site="dell", clock=0)
        self.right(("shown", ("hill", "dell"), ((STRIKE[1], (None, 7, None, 0, 0)),)), site="dell")
        self.wrong(("shown", ("hill", "dell"), bars), site="dell", clock=31)
        self.wrong(("shown", ("hill", "dell"), bars), site="dell", board="c")
        self.wrong(("shown", ("hill", "mill", "quay"), bars))
        self.wrong(("shown", ("hill", "mill", "quay"), bars), board="b")
        self.right(("shown", ("hill", "mill"), ()), site="mill", board="b", posts=POSTS[:1])
        self.wrong(("shown", ("mill",), ()), site="mill", board="s", id=STRIKE[1])
        for wrong in ((), bars + bars, ((ID, bars[0][1]),), ((STRIKE[1], NONE),), ((STRIKE[1], (0, None, None, 0, 1)),), ((STRIKE[1], ()),),
                      bars + ((("quay", 9), bars[0][1]),)):
            self.wrong(("shown", ("hill", "dell"), wrong), site="dell")
        for way in (("hill",), ("dell",), ("mill", "dell"), (), ("hill", "far", "dell")):
            self.wrong(("shown", way, bars), site="dell")

    def test_order_of_bars(self):
        posts = (("quay", OTHER), POSTS[0], ("far", STRIKE))
        bars = tuple((posted[1][1], labels(posted)) for posted in (posts[2], posts[0]))
        self.right(("shown", ("hill", "dell"), bars), site="dell", posts=posts)
        self.wrong(("shown", ("hill", "dell"), bars[::-1]), site="dell", posts=posts)
        self.wrong(("shown", ("hill", "dell"), bars[:1]), site="dell", posts=posts)

    def test_other_first_words(self):
        for paper in (("",), ("none", 1, 2), ("Shown", ("hill", "mill"), ()), ("not  here",), ("x", None), ("over shown", (), 3), ("notice",) * 10):
            for id in (ID, ("quay", 9)):
                self.wrong(paper, id=id)


def spoilt(chance, paper):
    """A paper with one thing spoilt."""
    parts = list(paper)
    at = chance.randrange(len(parts))
    part = parts[at]
    if isinstance(part, str):
        return (chance.choice(("unknown", "not here", "x", "")),)
    if part == () and parts[0] == "shown":
        parts[at] = ((("quay", 1), (None,) * 3),)
    elif part and isinstance(part[0], tuple):
        number = chance.randrange(len(part))
        id, told = part[number]
        ahead, behind = part[:number], part[number + 1:]
        bar = chance.choice((((id[0], id[1] + 50), told), (id, told[:-1]), (id, tuple(5 if one is None else one for one in told))))
        parts[at] = chance.choice((ahead + behind, part + part[number:number + 1], ahead + (bar,) + behind))
    elif part and isinstance(part[-1], int) and isinstance(part[0], str):
        parts[at] = chance.choice(((part[0], part[1] + 50), ("nobody", part[1])))
    elif part and isinstance(part[0], str):
        parts[at] = chance.choice((part[1:], part[:-1], part + part[-1:], part[:-1] + ("nobody",), part + ("far",)))
    else:
        parts[at] = chance.choice((part[1:], part + (None,), tuple(one if one is None else one + 9 for one in part)))
    return tuple(parts)


class WhyTest(unittest.TestCase):
    def test_each_form(self):
        for paper, more in ((("unknown",), {"id": ("quay", 9)}), (("not here",), {"board": "c"}), (("never", labels(POSTS[0])), {"site": "far"}),
                            (("over", ("hill", "mill", "quay")), {"clock": 31}),
                            (("hidden", ("hill", "mill", "quay"), STRIKE[1], ("mill", "quay")), {}),
                            (("shown", ("hill", "dell"), ((STRIKE[1], labels(POSTS[1])),)), {"site": "dell"})):
            told = {"clock": 30, "site": "quay", "board": "a", "id": ID, **more}
            self.assertEqual(why(BOOK, POSTS, **told), paper)

    def test_drawn(self):
        """For each cell of drawn plain worlds there is a paper that the judge takes, and its first word tells what is shown."""
        chance = random.Random(60)
        forms, taken = {}, 0
        for _ in range(70):
            book = drawn.draw_book(chance, lists=0)
            posts = draw_notices(chance, book)
            plain = PlainWorld(book, posts)
            cells = []
            for name, board in [(entry[1], board) for entry in book[3] for board in drawn.BOARDS]:
                for _, notice in posts + (("", post(99)),):
                    clock = notice[3] + site_of(book, name)[4] + chance.choice((-3, 0, 1))
                    paper = why(book, posts, clock, name, board, notice[1])
                    self.assertIs(judge_why(book, posts, clock, name, board, notice[1], paper), True)
                    shown = notice[1] in plain.shown(name, board, clock)
                    self.assertEqual(paper[0] == "shown", shown)
                    forms[paper[0]] = forms.get(paper[0], 0) + 1
                    cells.append((clock, name, board, notice[1], paper))
            for _ in range(150):
                # Papers with one thing spoilt, and papers of other cells: what is taken is right all the same.
                clock, name, board, id, paper = chance.choice(cells)
                other = spoilt(chance, paper) if chance.random() < 0.6 else chance.choice(cells)[4]
                if judge_why(book, posts, clock, name, board, id, other):
                    taken += 1
                    self.assertEqual(other[0] == "shown", id in plain.shown(name, board, clock))
                    self.assertIs(self.is_right(book, posts, clock, name, board, id, other), True)
                else:
                    self.assertIs(self.is_right(book, posts, clock, name, board, id, other), False)
        self.assertGreater(min(forms[word] for word in ("unknown", "not here", "never", "over", "hidden", "shown")), 20)
        self.assertGreater(taken, 500)

    def is_right(self, book, posts, clock, name, board, id, paper):
        """Whether a paper is as the document tells, in a slow way."""
        told = {notice[1]: (origin, notice) for origin, notice in posts}
        if id not in told or paper[0] == "unknown":
            return id not in told and paper[0] == "unknown"
        notice = told[id][1]
        entry = plainsites.entry_of(book, name)
        here = notice[7][0] != "strike" and board in notice[4] and plainreach.one_let(entry[5], (board,))
        over = notice[3] + entry[4] < clock
        hiders = sorted(other for other in told if plainsites.has_right(book, told[other][1], notice))
        if paper[0] == "not here":
            return not here
        if paper[0] == "never":
            return self.bars(book, told[id], name, paper[1])
        if paper[0] not in ("over", "hidden", "shown") or not self.leads(book, told[id], name, paper[1]):
            return False
        if paper[0] == "over":
            return over
        if paper[0] == "hidden":
            return paper[2] in hiders and self.leads(book, told[paper[2]], name, paper[3])
        ids = [bar[0] for bar in paper[2]]
        if not here or over or ids != hiders:
            return False
        return all(self.bars(book, told[other], name, bar[1]) for other, bar in zip(hiders, paper[2]))

    def leads(self, book, posted, name, way):
        return way in plainreach.ways(book, kind_of(posted)) and way[-1] == name

    def bars(self, book, posted, name, told):
        names = [entry[1] for entry in book[3]]
        if len(told) != len(names) or any(label is not None and label < 0 for label in told):
            return False
        by_name, kind = dict(zip(names, told)), kind_of(posted)
        if plainreach.carries(book, kind[1], kind[2]) and by_name[kind[1]] != 0:
            return False
        for _, giver, taker, pattern, hops, size in book[5]:
            label = by_name[giver]
            if label is not None and plainreach.one_let(pattern, kind[2]) and kind[3] <= size and label < hops:
                if plainreach.carries(book, taker, kind[2]) and (by_name[taker] is None or by_name[taker] > label + 1):
                    return False
        return by_name[name] is None
