import random
import unittest

from criermoot.headrows import fold
from criermoot.marks import mark_of
from criermoot.notices import is_notice, read_notice, size_of, write_notice
from tests.samples import CHARACTERS, TEXT, notice


def parts(*inner):
    return ("parts", inner)


def deep(depth):
    """A text within so many others."""
    body = TEXT
    for _ in range(depth):
        body = parts(body)
    return body


def ids(many, begin=10):
    return tuple(("hill", begin + k) for k in range(many))


class IsNoticeTest(unittest.TestCase):
    def right(self, **changed):
        self.assertIs(is_notice(notice(**changed)), True, changed)

    def wrong(self, **changed):
        self.assertIs(is_notice(notice(**changed)), False, changed)

    def test_first_word(self):
        self.right()
        for word in ("", "Notice", "notices", "note", "kind", "x" * 700):
            self.wrong(word=word)
        for other in (("note",), ("x", 1), ("", None, ("a",), 7), ("other",) + (None,) * 9, ("kind", (), ((),))):
            self.assertIs(is_notice(other), False)

    def test_ids(self):
        self.right(id=("mill", 1))
        self.right(id=("mill", 999999))
        for number in (0, -1, 1000000, -1000000):
            self.wrong(id=("mill", number))
        self.wrong(id=("Mill", 5), author="ann@Mill")
        self.wrong(id=("", 5), author="ann@")
        self.wrong(id=("abcdefghi", 5), author="ann@abcdefghi")
        self.right(id=("abcdefgh", 5), author="ann@abcdefgh")

    def test_authors(self):
        self.right(author="a@mill")
        self.right(author="abcdefgh@mill")
        for author in ("", "ann", "ann@", "@mill", "ann@hill", "Ann@mill", "ann@mill ", "ann@mill@mill", "mill",
                       "abcdefghi@mill", "ann@mil", "ann@mills", "x" * 700):
            self.wrong(author=author)

    def test_dates(self):
        for date in (0, 1, 1000000, 9999999):
            self.right(date=date)
        for date in (-1, -1000000, 10000000):
            self.wrong(date=date)

    def test_boards(self):
        self.right(boards=("a",))
        self.right(boards=("a", "b", "c"))
        self.right(boards=("c", "a", "b"))
        self.right(boards=("a" * 600,))
        for boards in ((), ("a", "b", "c", "d"), ("a", "a"), ("a", "b", "a"), ("",), ("a", ""), ("A",), ("a..b",),
                       ("a" * 601,), ("a b",), tuple(f"a{k}" for k in range(600)), ("a",) * 600):
            self.wrong(boards=boards)

    def test_subjects(self):
        for subject in ("", " ", "x" * 120, CHARACTERS):
            self.right(subject=subject)
        self.wrong(subject="x" * 121)
        self.wrong(subject=" " * 700)

    def test_refs(self):
        self.right(refs=ids(6))
        self.right(refs=(("mill", 6), ("hill", 5)))
        for refs in (ids(7), (("hill", 1), ("hill", 1)), (("mill", 5),), (("hill", 1), ("mill", 5)), (("hill", 0),),
                     (("hill", 1000000),), (("Hill", 1),), (("", 1),), ids(600), (("hill", -1),)):
            self.wrong(refs=refs)

    def test_kinds(self):
        for kind in (("post",), ("strike", ("mill", 6)), ("replace", ("hill", 5)), ("strike", ("hill", 999999))):
            self.right(kind=kind)
        for kind in (("strike", ("mill", 5)), ("replace", ("mill", 5)), ("strike", ("mill", 0)),
                     ("replace", ("mill", 1000000)), ("strike", ("Mill", 4)), ("", None), ("posts",), ("strikes", 5),
                     ("x", "y", "z"), ("cancel", ("mill", 6)), ("",)):
            self.wrong(kind=kind)

    def test_seals(self):
        eight = tuple(f"a{k}@mill" for k in range(8))
        self.right(seals=eight)
        self.right(seals=("b@hill", "a@hill"))
        for seals in (eight + ("b@mill",), ("a@b", "a@b"), ("a",), ("",), ("a@B",), ("a@b@c",), eight * 75):
            self.wrong(seals=seals)

    def test_texts(self):
        for coding in ("plain", "quoted"):
            self.right(body=("text", coding, ()))
            self.right(body=("text", coding, ("x" * 78,) * 20))
            self.wrong(body=("text", coding, ("x" * 79,)))
            self.wrong(body=("text", coding, ("x",) * 21))
            self.wrong(body=("text", coding, ("",) * 600))
        for coding in ("", "pairs", "runs", "Plain", "quads"):
            self.wrong(body=("text", coding, ("00",)))

    def test_data(self):
        for coding in ("pairs", "quads", "runs"):
            self.right(body=("data", coding, ()))
            self.right(body=("data", coding, (0, 255) * 60))
            for data in ((0,) * 121, (256,), (-1,), (0, 1000000), (-1000000,), (0,) * 600):
                self.wrong(body=("data", coding, data))
        for coding in ("", "plain", "quoted", "Pairs"):
            self.wrong(body=("data", coding, (0,)))

    def test_other_bodies(self):
        for body in (("", 1), ("texts", "plain", ("a",)), ("x",), ("part", (TEXT,)), parts(TEXT, ("y", 3, None))):
            self.wrong(body=body)

    def test_parts(self):
        self.right(body=parts(TEXT))
        self.right(body=parts(TEXT, TEXT, TEXT, TEXT))
        self.wrong(body=parts())
        self.wrong(body=parts(*[TEXT] * 5))
        self.wrong(body=parts(*[TEXT] * 600))
        self.wrong(body=parts(TEXT, parts()))
        self.wrong(body=parts(TEXT, ("text", "plain", ("x" * 79,))))
        self.wrong(body=parts(TEXT, ("data", "runs", (256,))))

    def test_many_parts(self):
        four = parts(*[TEXT] * 4)
        self.right(body=parts(four, four, TEXT))
        self.wrong(body=parts(four, four, TEXT, TEXT))
        self.wrong(body=parts(four, four, four))
        self.right(body=parts(four, parts(TEXT, TEXT, TEXT), TEXT, TEXT))

    def test_depth(self):
        self.right(body=deep(3))
        self.wrong(body=deep(4))
        self.wrong(body=deep(300))
        self.wrong(body=parts(TEXT, deep(3)))
        self.right(body=parts(TEXT, deep(2)))


class WriteNoticeTest(unittest.TestCase):
    def test_plain_post(self):
        rows = ("Id: 5@mill", "From: ann@mill", "Date: 12", "Boards: town.fish town.sale", "Subject: Fresh today")
        behind = ("", "Part: text plain", "Come soon.", ".")
        mark = (f"Mark: {mark_of(rows + behind)}",)
        self.assertEqual(write_notice(notice()), rows + mark + behind)
        self.assertEqual(write_notice(notice(), width=60), write_notice(notice()))

    def test_all_heads(self):
        whole = notice(
            date=9999999, subject="", refs=(("hill", 3), ("mill", 999999)), kind=("strike", ("hill", 7)),
            seals=("bob@hill", "ann@mill"), body=("data", "runs", ()))
        rows = ("Id: 5@mill", "From: ann@mill", "Date: 9999999", "Boards: town.fish town.sale", "Subject: ",
                "Refs: 3@hill 999999@mill", "Strikes: 7@hill", "Sealed: bob@hill ann@mill")
        behind = ("", "Part: data runs")
        self.assertEqual(write_notice(whole), rows + (f"Mark: {mark_of(rows + behind)}",) + behind)
        other = notice(kind=("replace", ("mill", 4)))
        self.assertEqual(write_notice(other)[5], "Replaces: 4@mill")
        self.assertTrue(write_notice(other)[6].startswith("Mark: "))

    def test_each_head_is_folded(self):
        whole = notice(
            id=("abcdefgh", 5), author="hgfedcba@abcdefgh", boards=("b" * 600, "a.b"), subject="ab cde " * 17 + "x",
            refs=ids(6, 111111), kind=("replace", ("mill", 4)), seals=tuple(f"a{k}@mill" for k in range(8)))
        for width in (20, 21, 45, 60, 77, 78):
            rows = write_notice(whole, width)
            end = rows.index("")
            told = ("Id: 5@abcdefgh", "From: hgfedcba@abcdefgh", "Date: 12", "Boards: " + "b" * 600 + " a.b",
                    "Subject: " + "ab cde " * 17 + "x", "Refs: " + " ".join(f"{n}@hill" for n in range(111111, 111117)),
                    "Replaces: 4@mill", "Sealed: " + " ".join(f"a{k}@mill" for k in range(8)))
            heads = tuple(row for head in told for row in fold(head, width))
            self.assertEqual(rows[:end - 1], heads)
            self.assertEqual(rows[end - 1], f"Mark: {mark_of(heads + rows[end:])}")
            self.assertEqual(read_notice(rows), whole)

    def test_size(self):
        self.assertEqual(size_of(notice()), 3)
        self.assertEqual(size_of(notice(body=("text", "plain", ()))), 1)
        self.assertEqual(size_of(notice(body=("text", "plain", ("x",) * 20))), 21)
        self.assertEqual(size_of(notice(body=("text", "quoted", ("x" * 61,)))), 3)
        self.assertEqual(size_of(notice(body=("text", "quoted", ("x" * 60,)))), 2)
        self.assertEqual(size_of(notice(body=("data", "pairs", (0,) * 30))), 2)
        self.assertEqual(size_of(notice(body=("data", "pairs", (0,) * 31))), 3)
        self.assertEqual(size_of(notice(body=("data", "quads", (0,) * 45))), 2)
        self.assertEqual(size_of(notice(body=("data", "quads", (0,) * 46))), 3)
        self.assertEqual(size_of(notice(body=parts(TEXT, TEXT))), 10)
        self.assertEqual(size_of(notice(subject="x" * 120)), 3)
        for body in (TEXT, parts(TEXT, deep(2))):
            rows = write_notice(notice(body=body))
            self.assertEqual(size_of(notice(body=body)), len(rows) - rows.index("") - 1)

    def test_same_answers(self):
        one, two = notice(), notice()
        self.assertEqual(write_notice(one, 33), write_notice(two, 33))
        self.assertEqual(one, two)
        self.assertEqual(read_notice(write_notice(one, 33)), read_notice(write_notice(two, 33)))
        self.assertIs(type(write_notice(one)), tuple)
        self.assertTrue(all(type(row) is str for row in write_notice(one)))


def some_body(chance, around=0):
    if around < 3 and chance.random() < 0.4:
        return parts(*[some_body(chance, around + 1) for _ in range(chance.randrange(1, 3))])
    if chance.random() < 0.5:
        rows = tuple("".join(chance.choices(CHARACTERS + "  ==", k=chance.randrange(79)))
                     for _ in range(chance.randrange(5)))
        return ("text", chance.choice(("plain", "quoted")), rows + chance.choice(((), ("--0",), ("--1--", "--0"))))
    data = tuple(chance.choice((0, 255, chance.randrange(256))) for _ in range(chance.randrange(121)))
    return ("data", chance.choice(("pairs", "quads", "runs")), data)


class ReadAgainTest(unittest.TestCase):
    def test_any_notice(self):
        chance = random.Random(8)
        tried = 0
        while tried < 150:
            whole = notice(
                date=chance.randrange(10000000), boards=tuple(chance.sample(("a.b", "c", "d" * 100, "town.x"), 3)),
                subject="".join(chance.choices(CHARACTERS + "    ", k=chance.randrange(121))),
                refs=ids(chance.randrange(7)), seals=tuple(f"a{k}@b" for k in range(chance.randrange(9))),
                kind=chance.choice((("post",), ("strike", ("hill", 4)), ("replace", ("mill", 4)))),
                body=some_body(chance))
            if not is_notice(whole):
                continue
            tried += 1
            for width in (20, chance.randrange(21, 78), 60, 78):
                rows = write_notice(whole, width)
                self.assertEqual(read_notice(rows), whole)
                self.assertEqual(write_notice(read_notice(rows), 60), write_notice(whole))
