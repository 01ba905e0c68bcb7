import unittest

from criermoot.bodies import body_rows, read_body
from criermoot.errors import BadText

A = ("text", "plain", ("a",))
HEAD = "Part: text plain"


def wrong(rows):
    """The number of the wrong row, None if the rows are read."""
    try:
        read_body(tuple(rows))
    except BadText as error:
        return error.at
    return None


def nested(depth):
    """The rows of parts within each other, with a text in the inmost."""
    rows = [HEAD, "x"]
    for number in range(depth):
        rows = [f"Part: parts {number}", f"--{number}", *rows, f"--{number}--"]
    return rows


class BodyRowsTest(unittest.TestCase):
    def test_headings(self):
        self.assertEqual(body_rows(A, 20), ("Part: text plain", "a"))
        self.assertEqual(body_rows(("text", "quoted", (" ",)), 20), ("Part: text quoted", "=20"))
        self.assertEqual(body_rows(("data", "pairs", (1,)), 20), ("Part: data pairs", "01"))
        self.assertEqual(body_rows(("data", "quads", (1,)), 20), ("Part: data quads", "0G"))
        self.assertEqual(body_rows(("data", "runs", (1,)), 20), ("Part: data runs", "1x01"))
        self.assertEqual(body_rows(("text", "plain", ()), 20), ("Part: text plain",))

    def test_parts(self):
        body = ("parts", (A, ("data", "runs", ()), A))
        self.assertEqual(body_rows(body, 60), (
            "Part: parts 0", "--0", HEAD, "a", "--0", "Part: data runs", "--0", HEAD, "a", "--0--"))

    def test_parts_within_parts(self):
        inner = ("parts", (A,))
        self.assertEqual(body_rows(("parts", (inner, inner)), 60), (
            "Part: parts 1", "--1", "Part: parts 0", "--0", HEAD, "a", "--0--",
            "--1", "Part: parts 0", "--0", HEAD, "a", "--0--", "--1--"))
        self.assertEqual(body_rows(("parts", (("parts", (inner,)),)), 60)[:4], (
            "Part: parts 2", "--2", "Part: parts 1", "--1"))

    def test_free_numbers(self):
        def number(*rows):
            return body_rows(("parts", (A, ("text", "plain", rows))), 60)[0]
        self.assertEqual(number("--0"), "Part: parts 1")
        self.assertEqual(number("--0--"), "Part: parts 1")
        self.assertEqual(number("--0", "--1--"), "Part: parts 2")
        self.assertEqual(number("--1", "--2--"), "Part: parts 0")
        self.assertEqual(number("--0 ", " --0", "--00", "--0-", "x--0"), "Part: parts 0")
        self.assertEqual(number(*[f"--{k}" for k in range(20)]), "Part: parts 20")
        self.assertEqual(number("--2", "--0", "--1--", "--4"), "Part: parts 3")

    def test_numbers_by_coded_rows(self):
        body = ("parts", (("text", "quoted", ("a" * 19 + "--0",)),))
        self.assertEqual(body_rows(body, 20), (
            "Part: parts 1", "--1", "Part: text quoted", "a" * 19 + "=", "--0", "--1--"))
        self.assertEqual(body_rows(body, 60)[0], "Part: parts 0")

    def test_numbers_by_quads(self):
        # The bytes whose quads are "--00" and "--0", which is a row like a delimiter.
        body = ("parts", (("data", "quads", (255, 240)),))
        self.assertEqual(body_rows(("data", "quads", (255, 240)), 20)[1], "--0")
        self.assertEqual(body_rows(body, 20)[0], "Part: parts 1")

    def test_read_again(self):
        rows = ("--0", "--0--", "", " ", "--1", "x" * 78, "Part: parts 0", "=41", ".", "a ")
        inner = ("parts", (("text", "plain", rows), ("text", "quoted", rows), ("data", "quads", (255, 240))))
        body = ("parts", (inner, ("parts", (("parts", (A,)), A)), ("data", "runs", (7,) * 120)))
        for width in (20, 21, 40, 60, 78):
            self.assertEqual(read_body(body_rows(body, width)), body)


class ReadBodyTest(unittest.TestCase):
    def test_headings_wrong(self):
        self.assertEqual(wrong(()), 0)
        for row in ("", "x", "Part:", "Part: text", "Part: text ", "Part: text pairs", "Part: data plain",
                    "Part: text Plain", "part: text plain", "Part: text plain ", " Part: text plain",
                    "Part: text  plain", "Part:text plain", "Part: plain", "Part: parts", "Part: parts ",
                    "Part: parts x", "Part: parts 00", "Part: parts 01", "Part: parts -1", "Part: parts +1",
                    "Part: parts 1000000", "Part: parts 1 ", "Part: text 0", "Part: data quoted", "--0", "Part: data",
                    "Part: text plain x", "Parts: text plain", "Part: parts plain", "Part: row plain"):
            self.assertEqual(wrong((row, "--0", HEAD, "--0--")), 0, row)

    def test_other_numbers(self):
        for number in (0, 1, 7, 10, 99999, 999999):
            rows = (f"Part: parts {number}", f"--{number}", HEAD, "--3", f"--{number}--")
            self.assertEqual(read_body(rows), ("parts", (("text", "plain", ("--3",)),)))

    def test_numbers_around(self):
        rows = ["Part: parts 4", "--4", "Part: parts 4", "--4", HEAD, "--4--", "--4--"]
        self.assertEqual(wrong(rows), 2)
        rows = ["Part: parts 4", "--4", "Part: parts 5", "--5", "Part: parts 4", "--4", HEAD, "--4--", "--5--", "--4--"]
        self.assertEqual(wrong(rows), 4)
        rows = ["Part: parts 4", "--4", "Part: parts 5", "--5", HEAD, "--5--", "--4", "Part: parts 5", "--5", HEAD,
                "--5--", "--4--"]
        self.assertIsNone(wrong(rows))

    def test_delimiters_missing(self):
        self.assertEqual(wrong(("Part: parts 0",)), 1)
        self.assertEqual(wrong(("Part: parts 0", "--0--")), 1)
        self.assertEqual(wrong(("Part: parts 0", HEAD)), 1)
        self.assertEqual(wrong(("Part: parts 0", "--1", HEAD, "--1--")), 1)
        self.assertEqual(wrong(("Part: parts 0", "--0")), 2)
        self.assertEqual(wrong(("Part: parts 0", "--0", "--0--")), 2)
        self.assertEqual(wrong(("Part: parts 0", "--0", HEAD)), 3)
        self.assertEqual(wrong(("Part: parts 0", "--0", HEAD, "a", "b")), 5)
        self.assertEqual(wrong(("Part: parts 0", "--0", HEAD, "--0")), 4)
        self.assertEqual(wrong(("Part: parts 0", "--0", HEAD, "--0--", "x")), 4)
        self.assertEqual(wrong(("Part: parts 0", "--0", HEAD, "--0--", "")), 4)
        self.assertEqual(wrong(("Part: parts 0", "--0", HEAD, "--0--", "--0", HEAD, "--0--")), 4)

    def test_delimiters_of_others(self):
        rows = ["Part: parts 1", "--1", "Part: parts 0", "--0", HEAD, "a"]
        self.assertEqual(wrong(rows + ["--1--"]), 6)
        self.assertEqual(wrong(rows + ["--1", HEAD, "--1--"]), 6)
        self.assertEqual(wrong(rows + ["--0--"]), 7)
        self.assertEqual(wrong(rows + ["--0--", "a"]), 7)
        self.assertEqual(wrong(rows + ["--0--", "--0"]), 7)
        self.assertIsNone(wrong(rows + ["--0--", "--1--"]))
        # Behind the inner parts their delimiters are rows like others.
        rows = rows + ["--0--", "--1", HEAD, "--0", "--0--", "--1--"]
        self.assertEqual(read_body(rows)[1][1], ("text", "plain", ("--0", "--0--")))

    def test_rows_like_delimiters(self):
        rows = ("--0", "--0--", "--7", "--00", "--07", "--7-")
        self.assertEqual(read_body((HEAD,) + rows), ("text", "plain", rows))
        told = read_body(("Part: parts 7", "--7", HEAD, "--0", "--07", "--7-", "--7 ", "--7--"))
        self.assertEqual(told, ("parts", (("text", "plain", ("--0", "--07", "--7-", "--7 ")),)))

    def test_delimiters_amid_quoted_rows(self):
        self.assertEqual(wrong(("Part: parts 0", "--0", "Part: text quoted", "a=", "--0--")), 4)
        self.assertEqual(wrong(("Part: parts 0", "--0", "Part: text quoted", "a=", "--0", HEAD, "--0--")), 4)
        self.assertEqual(wrong(("Part: text quoted", "a=")), 2)
        self.assertEqual(read_body(("Part: text quoted", "a=", "--0--")), ("text", "quoted", ("a--0--",)))

    def test_fifth_part(self):
        rows = ["Part: parts 0"] + ["--0", HEAD] * 4
        self.assertIsNone(wrong(rows + ["--0--"]))
        self.assertEqual(wrong(rows + ["--0", HEAD, "--0--"]), 9)
        self.assertEqual(wrong(rows + ["--0", "nonsense"]), 9)

    def test_thirteenth_part(self):
        four = ["Part: parts 1"] + ["--1", HEAD] * 4 + ["--1--"]
        rows = ["Part: parts 0", "--0", *four, "--0", *four, "--0", HEAD]
        self.assertIsNone(wrong(rows + ["--0--"]))
        self.assertEqual(wrong(rows + ["--0", HEAD, "--0--"]), len(rows) + 1)
        self.assertEqual(wrong(rows + ["--0", "Part: parts 5", "--0--"]), len(rows) + 1)

    def test_depth(self):
        self.assertIsNone(wrong(nested(3)))
        self.assertEqual(wrong(nested(4)), 8)
        rows = nested(4)
        rows[8] = "Part: parts 9"
        self.assertEqual(wrong(rows), 8)
        rows = nested(3)
        rows[6] = "Part: parts 9"
        self.assertEqual(wrong(rows), 7)
        rows[7:8] = ["--9", HEAD, "--9--"]
        self.assertEqual(wrong(rows), 8)

    def test_coded_rows(self):
        self.assertEqual(wrong(("Part: data pairs", "00", "0")), 2)
        self.assertEqual(wrong(("Part: parts 0", "--0", "Part: data quads", "00", "00", "--0--")), 4)
        self.assertEqual(wrong(("Part: data runs", "1x00", "")), 2)
        self.assertEqual(wrong([HEAD] + ["a"] * 21), 21)
        self.assertEqual(wrong([HEAD, "x" * 79]), 1)
        self.assertIsNone(wrong(["Part: data pairs"] + ["00"] * 120))
        self.assertEqual(wrong(["Part: data pairs"] + ["00"] * 121), 121)

    def test_first_of_several(self):
        self.assertEqual(wrong(("Part: parts 0", "--0", "Part: data pairs", "0", "Part: x", "x")), 3)
        self.assertEqual(wrong(("Part: parts 0", "--0", "Part: data x", "0", "--1--")), 2)
        self.assertEqual(wrong(("Part: parts 00", "--0", "Part: data x")), 0)
        self.assertEqual(wrong(("Part: parts 0", "--0", "Part: text quoted", "=", "=4", "--0--")), 4)
