import itertools
import random
import re
import unittest

from criermoot.search import Index, fits_query
from tests.samples import notice

TEXT = ("text", "plain", ("Come soon, SOON.", "the fish is here"))


def plain_rows(whole):
    """The rows that are searched."""
    def inner(part):
        if part[0] == "parts":
            return [row for one in part[1] for row in inner(one)]
        return list(part[2]) if part[0] == "text" else []
    return [whole[5]] + inner(whole[9])


def plain_fits(query, whole):
    rows = [re.findall("[a-z0-9]+", row.lower()) for row in plain_rows(whole)]
    if query[0] == "word":
        return any(query[1] in row for row in rows)
    if query[0] == "near":
        return any((row[i], row[j]) == query[1:3] and 0 < abs(i - j) <= query[3]
                   for row in rows for i, j in itertools.product(range(len(row)), repeat=2))
    if query[0] == "by":
        return all(told in ("*", name) for told, name in zip(query[1:], whole[2].split("@")))
    if query[0] == "before":
        return whole[3] < query[1]
    told = [plain_fits(one, whole) for one in query[1:]]
    return {"not": not told[0], "and": all(told), "or": any(told)}[query[0]]


class QueryTest(unittest.TestCase):
    def check(self, query, told, **parts):
        whole = notice(**parts)
        self.assertIs(fits_query(query, whole), told, (query, parts))
        self.assertEqual(plain_fits(query, whole), told)

    def test_words(self):
        for name, told in (("fresh", True), ("today", True), ("come", True), ("soon", True), ("fish", True), ("fres", False),
                           ("here", True), ("is", True), ("town", False), ("ann", False), ("freshtod", False)):
            self.check(("word", name), told, body=TEXT)

    def test_where_words_stand(self):
        fish = ("text", "quoted", ("=fish=",))
        self.check(("word", "fish"), True, body=fish)
        self.check(("word", "fish"), True, subject="a FISH!", body=("data", "pairs", ()))
        self.check(("word", "fish"), True, subject="", body=("parts", (("parts", (("parts", (fish,)), TEXT[:2] + ((),)),),)))
        # Nothing is searched in data, nor in the coded rows of a text.
        self.check(("word", "00"), False, body=("data", "pairs", (0, 0)))
        self.check(("word", "3x05"), False, body=("data", "runs", (5, 5, 5)))
        self.check(("word", "3dfish"), False, body=fish)
        self.check(("word", "part"), False, body=TEXT)
        self.check(("word", "a1"), True, body=("text", "plain", ("x-a1-y",)))

    def test_near(self):
        for n in range(1, 10):
            row, far = "one " + "x " * (n - 1) + "two", "a one " + "x " * n + "two b"
            for names in (("one", "two"), ("two", "one")):
                query = ("near",) + names + (n,)
                self.check(query, True, subject=row, body=("text", "plain", ()))
                self.check(query, False, subject=far, body=("text", "plain", (far,)))
                self.check(query, True, subject="", body=("text", "plain", ("a", "b " + row)))

    def test_near_of_one_name(self):
        for row, n, told in (("fish", 9, False), ("fish fish", 1, True), ("fish a fish", 1, False), ("fish a fish", 2, True),
                             ("a fish b c fish", 3, True), ("a fish b c fish", 2, False)):
            self.check(("near", "fish", "fish", n), told, subject=row)

    def test_near_is_within_one_row(self):
        rows = ("text", "plain", ("a one", "two b"))
        self.check(("near", "one", "two", 9), False, body=rows)
        self.check(("near", "one", "two", 9), False, subject="one", body=("text", "plain", ("two",)))
        self.check(("near", "fish", "fish", 9), False, subject="fish", body=("text", "plain", ("fish", "fish")))
        self.check(("near", "two", "b", 1), True, body=rows)

    def test_by(self):
        for person, site, told in (("ann", "mill", True), ("*", "mill", True), ("ann", "*", True), ("*", "*", True), ("bob", "*", False),
                                   ("*", "hill", False), ("bob", "mill", False), ("mill", "ann", False)):
            self.check(("by", person, site), told)

    def test_before(self):
        for date, told in ((0, False), (11, False), (12, False), (13, True), (9999999, True)):
            self.check(("before", date), told)

    def test_joins(self):
        yes, no = ("by", "*", "*"), ("before", 0)
        for one, other in itertools.product((yes, no), repeat=2):
            self.check(("and", one, other), one == other == yes)
            self.check(("or", one, other), yes in (one, other))
        self.check(("not", no), True)
        self.check(("not", yes), False)
        self.check(("not", ("and", yes, ("not", ("or", no, yes)))), True)

    def test_drawn(self):
        chance = random.Random(57)
        held = 0
        for _ in range(600):
            whole, query = draw_notice(chance, 1), draw_query(chance, 3)
            self.assertIs(fits_query(query, whole), plain_fits(query, whole))
            held += fits_query(query, whole)
        self.assertTrue(100 < held < 500)


WORDS = ("one", "two", "fish", "x1")


def draw_query(chance, depth):
    word = chance.choice(("word", "near", "near", "by", "before", "not", "and", "or")[:8 if depth else 5])
    if word == "word":
        return (word, chance.choice(WORDS))
    if word == "near":
        return (word, chance.choice(WORDS), chance.choice(WORDS), chance.randrange(1, 10))
    if word == "by":
        return (word, chance.choice(("*", "ann", "bob")), chance.choice(("*", "mill")))
    if word == "before":
        return (word, chance.randrange(12))
    return (word,) + tuple(draw_query(chance, depth - 1) for _ in range(1 if word == "not" else 2))


def draw_notice(chance, number):
    def row():
        return chance.choice((" ", ", ", "-")).join(chance.choices(WORDS + ("a", "B"), k=chance.randrange(6)))[:78]
    texts = tuple(("text", chance.choice(("plain", "quoted")), tuple(row() for _ in range(chance.randrange(3)))) for _ in range(2))
    body = chance.choice((texts[0], ("parts", texts), ("parts", (("parts", texts), ("data", "runs", (1,))))))
    return notice(id=("mill", number), author=chance.choice(("ann@mill", "bob@mill")), date=chance.randrange(12), subject=row(), body=body)


class IndexTest(unittest.TestCase):
    def test_order(self):
        index = Index()
        self.assertEqual(index.found(("by", "*", "*")), ())
        for number, date in ((5, 3), (10, 1), (9, 3), (2, 7)):
            self.assertIsNone(index.put(notice(id=("mill", number), date=date)))
        index.put(notice(id=("hill", 50), author="ann@hill", date=3))
        told = (("mill", 10), ("hill", 50), ("mill", 5), ("mill", 9), ("mill", 2))
        self.assertEqual(index.found(("by", "*", "*")), told)
        self.assertEqual(index.found(("before", 7)), told[:4])
        self.assertEqual(index.found(("not", ("before", 3))), told[1:])

    def test_an_id_twice(self):
        index = Index()
        index.put(notice(subject="one"))
        index.put(notice(subject="two", date=1))
        self.assertEqual((index.found(("word", "one")), index.found(("word", "two"))), ((("mill", 5),), ()))
        self.assertIsNone(index.drop(("mill", 5)))
        self.assertEqual((index.found(("word", "one")), index.found(("by", "*", "*"))), ((), ()))
        index.put(notice(subject="two", date=1))
        self.assertEqual((index.found(("word", "one")), index.found(("word", "two"))), ((), (("mill", 5),)))

    def test_what_is_not_in(self):
        index = Index()
        self.assertIsNone(index.drop(("mill", 5)))
        index.put(notice())
        index.drop(("hill", 5))
        index.drop(("mill", 6))
        self.assertEqual(index.found(("word", "fresh")), (("mill", 5),))

    def test_drawn(self):
        chance = random.Random(570)
        for _ in range(20):
            pool, index, inside = [draw_notice(chance, number) for number in range(1, 10)], Index(), {}
            for _ in range(40):
                one = chance.choice(pool)
                if chance.random() < 0.6:
                    index.put(one)
                    inside[one[1]] = one
                else:
                    index.drop(one[1])
                    inside.pop(one[1], None)
                query = draw_query(chance, 3)
                told = sorted((whole[3], id) for id, whole in inside.items() if plain_fits(query, whole))
                self.assertEqual(index.found(query), tuple(id for _, id in told))
