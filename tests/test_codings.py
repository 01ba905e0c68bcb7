import base64
import random
import unittest

from criermoot.codings import coded, decoded
from criermoot.errors import BadText
from tests.samples import CHARACTERS

WIDTHS = (20, 21, 22, 23, 24, 37, 60, 76, 77, 78)
QUAD_DIGITS = "0123456789ABCDEFGHIJKLMNOPQRSTUVWXYZabcdefghijklmnopqrstuvwxyz+-"
USUAL_DIGITS = "ABCDEFGHIJKLMNOPQRSTUVWXYZabcdefghijklmnopqrstuvwxyz0123456789+/"


def wrong(word, coding, rows):
    """The number of the wrong row, None if the rows are decoded."""
    try:
        decoded(word, coding, tuple(rows))
    except BadText as error:
        return error.at
    return None


def plain_quads(data, width):
    digits = base64.b64encode(bytes(data)).decode().rstrip("=").translate(str.maketrans(USUAL_DIGITS, QUAD_DIGITS))
    step = width // 4 * 4
    return tuple(digits[k:k + step] for k in range(0, len(digits), step))


class CodedTest(unittest.TestCase):
    def test_nothing(self):
        for width in WIDTHS:
            for coding in ("plain", "quoted"):
                self.assertEqual(coded(("text", coding, ()), width), ())
            for coding in ("pairs", "quads", "runs"):
                self.assertEqual(coded(("data", coding, ()), width), ())

    def test_plain(self):
        rows = ("", " ", "x" * 78, "a=b ", "--0", "Part: text plain")
        for width in WIDTHS:
            self.assertEqual(coded(("text", "plain", rows), width), rows)

    def test_quoted_signs(self):
        rows = ("", " ", "  ", "a b", "a ", "=", "==", "= ", "=3D", CHARACTERS[:40])
        told = ("", "=20", " =20", "a b", "a=20", "=3D", "=3D=3D", "=3D=20", "=3D3D",
                CHARACTERS[:40].replace("=", "=3D"))
        self.assertEqual(coded(("text", "quoted", rows), 78), told)

    def test_quoted_units_that_fit(self):
        def of(row, width=20):
            return coded(("text", "quoted", (row,)), width)
        self.assertEqual(of("a" * 20), ("a" * 20,))
        self.assertEqual(of("a" * 21), ("a" * 19 + "=", "aa"))
        self.assertEqual(of("a" * 17 + "="), ("a" * 17 + "=3D",))
        self.assertEqual(of("a" * 17 + " "), ("a" * 17 + "=20",))
        self.assertEqual(of("a" * 18 + "="), ("a" * 18 + "=", "=3D"))
        self.assertEqual(of("a" * 18 + " "), ("a" * 18 + "=", "=20"))
        self.assertEqual(of("a" * 16 + "=" + "bc"), ("a" * 16 + "=3D=", "bc"))
        self.assertEqual(of("a" * 17 + "=" + "bc"), ("a" * 17 + "=", "=3Dbc"))
        self.assertEqual(of("a" * 19 + " "), ("a" * 19 + "=", "=20"))
        self.assertEqual(of(" " * 21), (" " * 19 + "=", " =20"))
        self.assertEqual(of("=" * 7), ("=3D" * 6 + "=", "=3D"))
        self.assertEqual(of("a" * 78, 78), ("a" * 78,))
        self.assertEqual(of("a" * 77 + "=", 78), ("a" * 77 + "=", "=3D"))
        self.assertEqual(of("a" * 75 + "=", 78), ("a" * 75 + "=3D",))

    def test_quoted_as_told(self):
        chance = random.Random(71)
        for _ in range(400):
            row = "".join(chance.choices("ab= ", k=chance.randrange(79)))
            for width in (20, 21, 59, 77, 78):
                found = coded(("text", "quoted", (row,)), width)
                self.assertTrue(all(len(one) <= width for one in found))
                self.assertTrue(all(one.endswith("=") and len(one) > width - 3 for one in found[:-1]))
                units = [{"=": "=3D"}.get(sign, sign) for sign in row]
                if row.endswith(" "):
                    units[-1] = "=20"
                self.assertEqual("".join(one[:-1] for one in found[:-1]) + found[-1], "".join(units))
                # The next unit would not have fitted.
                for one, behind in zip(found, found[1:]):
                    self.assertGreater(len(one) - 1 + (3 if behind.startswith("=") else 1), width - 1)

    def test_pairs(self):
        self.assertEqual(coded(("data", "pairs", (0, 9, 10, 171, 255)), 20), ("00090AABFF",))
        data = tuple(range(100, 220))
        for width in WIDTHS:
            step = width // 2
            told = tuple(bytes(data[k:k + step]).hex().upper() for k in range(0, 120, step))
            self.assertEqual(coded(("data", "pairs", data), width), told)
        self.assertEqual(len(coded(("data", "pairs", (1,) * 11), 21)), 2)
        self.assertEqual(len(coded(("data", "pairs", (1,) * 10), 21)), 1)

    def test_quads(self):
        self.assertEqual(coded(("data", "quads", (0, 0, 0)), 20), ("0000",))
        self.assertEqual(coded(("data", "quads", (255, 255, 255)), 20), ("----",))
        self.assertEqual(coded(("data", "quads", (255,)), 20), ("-m",))
        self.assertEqual(coded(("data", "quads", (1,)), 20), ("0G",))
        self.assertEqual(coded(("data", "quads", (0, 1)), 20), ("004",))
        self.assertEqual(coded(("data", "quads", (255, 255)), 20), ("--y",))
        self.assertEqual(coded(("data", "quads", (248, 48, 128, 62)), 20), ("+320FW",))
        chance = random.Random(72)
        for many in [*range(20), 44, 45, 46, 57, 58, 118, 119, 120]:
            data = tuple(chance.randrange(256) for _ in range(many))
            for width in WIDTHS:
                self.assertEqual(coded(("data", "quads", data), width), plain_quads(data, width))

    def test_runs(self):
        def of(data, width=20):
            return coded(("data", "runs", tuple(data)), width)
        self.assertEqual(of((5, 5, 5, 16)), ("3x05 1x10",))
        self.assertEqual(of([7] * 99), ("99x07",))
        self.assertEqual(of([7] * 100), ("99x07 1x07",))
        self.assertEqual(of([7] * 120), ("99x07 21x07",))
        self.assertEqual(of([7] * 99 + [8] * 21), ("99x07 21x08",))
        self.assertEqual(of([1, 2, 1]), ("1x01 1x02 1x01",))
        self.assertEqual(of((171, 205)), ("1xAB 1xCD",))
        self.assertEqual(of([1, 2, 3, 4]), ("1x01 1x02 1x03 1x04",))
        self.assertEqual(of([1] * 10 + [2, 3, 4]), ("10x01 1x02 1x03 1x04",))
        self.assertEqual(of([1] * 10 + [2] * 10 + [3, 4]), ("10x01 10x02 1x03", "1x04"))
        self.assertEqual(of([1, 2, 3, 4, 5]), ("1x01 1x02 1x03 1x04", "1x05"))
        self.assertEqual(of([1] * 10 + [2, 3, 4], 21), ("10x01 1x02 1x03 1x04",))

    def test_runs_at_each_width(self):
        chance = random.Random(73)
        for _ in range(60):
            data = []
            while len(data) < 120:
                data.extend([chance.randrange(256)] * chance.choice((1, 1, 2, 9, 10, 40)))
            data = tuple(data[:120])
            for width in WIDTHS:
                rows = coded(("data", "runs", data), width)
                runs = [run.split("x") for row in rows for run in row.split(" ")]
                self.assertEqual(tuple(int(byte, 16) for many, byte in runs for _ in range(int(many))), data)
                self.assertTrue(all(one[1] != other[1] for one, other in zip(runs, runs[1:])))
                self.assertTrue(all(len(row) <= width for row in rows))
                for row, behind in zip(rows, rows[1:]):
                    self.assertGreater(len(row + " " + behind.split(" ")[0]), width)


class DecodedTest(unittest.TestCase):
    def test_what_was_coded(self):
        chance = random.Random(81)
        for _ in range(60):
            many = chance.randrange(121)
            data = tuple(chance.choice((0, 65, 255, chance.randrange(256))) for _ in range(many))
            rows = tuple("".join(chance.choices(CHARACTERS + "=== ", k=chance.choice((0, 1, 19, 60, 78))))
                         for _ in range(chance.randrange(21)))
            for width in WIDTHS:
                for part in (("text", "plain", rows), ("text", "quoted", rows), ("data", "pairs", data),
                             ("data", "quads", data), ("data", "runs", data)):
                    self.assertEqual(decoded(part[0], part[1], coded(part, width)), part)

    def test_nothing(self):
        for word, coding in (("text", "plain"), ("text", "quoted"), ("data", "pairs"), ("data", "quads"),
                             ("data", "runs")):
            self.assertEqual(decoded(word, coding, ()), (word, coding, ()))

    def test_plain_bounds(self):
        self.assertIsNone(wrong("text", "plain", ["x" * 78] * 20))
        self.assertEqual(wrong("text", "plain", ["x" * 78] * 21), 20)
        self.assertEqual(wrong("text", "plain", [""] * 21), 20)
        self.assertEqual(wrong("text", "plain", ["x", "x" * 79] + [""] * 30), 1)

    def test_quoted_loose(self):
        for rows, told in (
                (("=41=42c",), ("ABc",)), (("a=", "b"), ("ab",)), (("=", "=", ""), ("",)), (("=", "a"), ("a",)),
                (("a ", " "), ("a ", " ")), (("a =20 ",), ("a   ",)), (("=3D=", "=3D"), ("==",)),
                (("=20=7E=21",), (" ~!",)), (("a=", "=", "b=", "c", "d"), ("abc", "d"))):
            self.assertEqual(decoded("text", "quoted", rows), ("text", "quoted", told))

    def test_quoted_wrong(self):
        for row in ("=4", "==", "=4=", "=g1", "=3d", "=3", "a=b", "= 4", "=1F", "=0A", "=7F", "=25", "=FF", "=80",
                    "===", "=G0", "=2", "a==20", "=2 "):
            self.assertEqual(wrong("text", "quoted", ("ok", row, "ok")), 1, row)
        for code in range(256):
            told = None if 32 <= code < 127 and code != 37 else 0
            self.assertEqual(wrong("text", "quoted", (f"={code:02X}",)), told, code)

    def test_quoted_row_to_be_joined(self):
        self.assertEqual(wrong("text", "quoted", ("a=",)), 1)
        self.assertEqual(wrong("text", "quoted", ("a", "b=", "=")), 3)
        self.assertEqual(wrong("text", "quoted", ("=",)), 1)

    def test_quoted_bounds(self):
        self.assertIsNone(wrong("text", "quoted", ["a" * 78] * 20))
        self.assertIsNone(wrong("text", "quoted", ["=41" * 78] * 20))
        self.assertIsNone(wrong("text", "quoted", ["=", "a" * 40 + "=", "a" * 38 + "=", "="] + [""]))
        self.assertEqual(wrong("text", "quoted", ["a" * 79]), 0)
        self.assertEqual(wrong("text", "quoted", ["=41" * 79]), 0)
        self.assertEqual(wrong("text", "quoted", ["x", "a" * 40 + "=", "a" * 39 + "=", ""]), 2)
        self.assertEqual(wrong("text", "quoted", ["a" * 79 + "="]), 0)
        self.assertEqual(wrong("text", "quoted", ["a"] * 21), 20)
        self.assertEqual(wrong("text", "quoted", ["a"] * 20 + ["="]), 20)
        self.assertEqual(wrong("text", "quoted", ["a"] * 20 + ["=", "b"]), 20)
        self.assertIsNone(wrong("text", "quoted", ["a"] * 19 + ["=", "=", "b"]))
        self.assertEqual(wrong("text", "quoted", ["a"] * 19 + ["=", "=", "b", "c"]), 22)
        self.assertEqual(wrong("text", "quoted", ["a"] * 19 + ["b="]), 20)
        self.assertEqual(wrong("text", "quoted", ["a"] * 20 + ["=4"]), 20)

    def test_pairs_wrong(self):
        for row in ("", "0", "000", "0g", "0a", " 00", "00 ", "0 ", "G0", "0x", "-1", "00 00", "+1"):
            self.assertEqual(wrong("data", "pairs", ("00FF", row, "00")), 1, row)
        self.assertEqual(decoded("data", "pairs", ("00", "0AFF")), ("data", "pairs", (0, 10, 255)))

    def test_data_bounds(self):
        self.assertIsNone(wrong("data", "pairs", ("00" * 120,)))
        self.assertEqual(wrong("data", "pairs", ("00" * 121,)), 0)
        self.assertEqual(wrong("data", "pairs", ["00" * 60] * 2 + ["00"]), 2)
        self.assertIsNone(wrong("data", "quads", ("0" * 160,)))
        self.assertEqual(wrong("data", "quads", ("0" * 162,)), 0)
        self.assertEqual(wrong("data", "quads", ("0" * 80, "0" * 76, "000000")), 2)
        self.assertIsNone(wrong("data", "quads", ("0" * 80, "0" * 76, "0000")))
        self.assertIsNone(wrong("data", "runs", ("99x00 21x00",)))
        self.assertEqual(wrong("data", "runs", ("99x00 22x00",)), 0)
        self.assertEqual(wrong("data", "runs", ("99x00", "21x00", "1x00")), 2)

    def test_quads_wrong(self):
        for row in ("", "0", "00000", "000000000", "000=", "00 0", "0_00", "00/0", "0001 ", "01", "0F", "001", "002",
                    "003", "000001", "0000001", "-n", "--z", ".000"):
            self.assertEqual(wrong("data", "quads", ("0000", row, "0000")), 1, row)
        for digit in QUAD_DIGITS:
            rest = QUAD_DIGITS.index(digit)
            self.assertEqual(wrong("data", "quads", ("z" + digit,)), None if rest % 16 == 0 else 0)
            self.assertEqual(wrong("data", "quads", ("zz" + digit,)), None if rest % 4 == 0 else 0)
            self.assertIsNone(wrong("data", "quads", ("zzz" + digit,)))

    def test_quads_behind_a_rest(self):
        self.assertEqual(decoded("data", "quads", ("0000", "00")), ("data", "quads", (0, 0, 0, 0)))
        self.assertEqual(wrong("data", "quads", ("00", "0000")), 1)
        self.assertEqual(wrong("data", "quads", ("0000", "000", "00", "x!")), 2)
        self.assertEqual(wrong("data", "quads", ("000", "")), 1)
        self.assertIsNone(wrong("data", "quads", ("0000", "00000000", "000")))

    def test_runs_wrong(self):
        for row in ("", " ", "0x05", "100x05", "00x05", "01x05", "x05", "5", "5x", "5x5", "5x055", "5x5g", "5xab",
                    "5X05", "5x05 ", " 5x05", "5x05  5x05", "5x05x", "5x05,5x05", "-1x05", "+1x05", "1 x05", "1x 5",
                    "5x05 0x05", "ax05", "5x05 5"):
            self.assertEqual(wrong("data", "runs", ("1x01", row, "1x01")), 1, row)

    def test_runs_loose(self):
        rows = ("1x05 2x05", "3x05", "1x06 1x06")
        self.assertEqual(decoded("data", "runs", rows), ("data", "runs", (5,) * 6 + (6, 6)))
        self.assertEqual(decoded("data", "runs", ("99x00",)), ("data", "runs", (0,) * 99))

    def test_kinds(self):
        for told in (decoded("text", "quoted", ("a",)), decoded("data", "pairs", ("00",))):
            self.assertIs(type(told), tuple)
            self.assertIs(type(told[2]), tuple)
        for part in (("text", "plain", ("a",)), ("text", "quoted", ("a",)), ("data", "runs", (1,))):
            self.assertIs(type(coded(part, 20)), tuple)
