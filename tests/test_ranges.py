import random
import re
import unittest

from criermoot.errors import BadMarks
from criermoot.ranges import joined_marks, marked, marks_without, next_new, read_marks, write_marks

LAST = 999999


def plain_marks(text):
    """The marks of a text, None if it is none."""
    if text == "":
        return ()
    if not re.fullmatch("[1-9][0-9]*(-[1-9][0-9]*)?(,[1-9][0-9]*(-[1-9][0-9]*)?)*", text):
        return None
    found = []
    for part in text.split(","):
        first, dash, last = part.partition("-")
        if dash and int(first) >= int(last):
            return None
        found.append((int(first), int(last if dash else first)))
    if any(other[0] < one[1] + 2 for one, other in zip(found, found[1:])) or found[-1][1] > LAST:
        return None
    return tuple(found)


def wrong_place(text):
    """The place of the first wrong character, None if the text is one of marks: the greatest digits close what is open."""
    if plain_marks(text) is not None:
        return None
    for at in range(len(text)):
        if all(plain_marks(text[:at + 1] + "9" * many) is None for many in range(7)):
            return at
    return len(text)


def numbers(marks):
    return {number for first, last in marks for number in range(first, last + 1)}


def marks_of(found):
    """The marks of a set of numbers."""
    told = []
    for number in sorted(found):
        if told and told[-1][1] == number - 1:
            told[-1] = (told[-1][0], number)
        else:
            told.append((number, number))
    return tuple(told)


class ReadTest(unittest.TestCase):
    def check(self, text):
        at = wrong_place(text)
        if at is None:
            marks = read_marks(text)
            self.assertEqual(marks, plain_marks(text))
            self.assertEqual(write_marks(marks), text)
        else:
            with self.assertRaises(BadMarks) as caught:
                read_marks(text)
            self.assertEqual(caught.exception.at, at, text)

    def wrong(self, text, at):
        self.assertEqual(wrong_place(text), at)
        self.check(text)

    def test_right(self):
        for text, marks in (("", ()), ("1", ((1, 1),)), ("1-2", ((1, 2),)), ("7,9-12,999999", ((7, 7), (9, 12), (LAST, LAST))),
                            ("1-999999", ((1, LAST),)), ("999998-999999", ((LAST - 1, LAST),)), ("1-999997,999999", ((1, LAST - 2), (LAST, LAST))),
                            ("100,110-200", ((100, 100), (110, 200)))):
            self.assertEqual(read_marks(text), marks)
            self.assertEqual(write_marks(marks), text)
            self.check(text)

    def test_wrong(self):
        for text, at in (
                # A number that is missing, and signs that are none.
                (",", 0), ("-", 0), ("1,", 2), ("1-", 2), ("1,,2", 2), ("1--2", 2), ("1-,2", 2), ("1,-2", 2), ("1 ,3", 1), ("a", 0),
                ("1+3", 1), ("1-2-3", 3), ("'", 0), ("1.", 1),
                # Zeros.
                ("0", 0), ("0-3", 0), ("01", 0), ("1-0", 2), ("1,03", 2), ("10", None), ("1-05", 2),
                # Limits.
                ("1000000", 6), ("9999999", 6), ("1-1000000", 8), ("999999-", 6), ("999999,", 6), ("999998,", 6), ("999998-", 7),
                ("999997,", 7), ("999997,9", 8), ("999997,98", 8), ("999997,999998", 12), ("999997,999998,", 12),
                ("999998-99", 9), ("999998-999998", 12), ("5-999999,", 8),
                # First numbers that are greater than the last ones, and ranges that touch or overlap.
                ("5-5", 3), ("5-4", 3), ("5-4,", 3), ("5-40", None), ("5-5,", 3), ("50-49", 5), ("50-4,", 4), ("999-1", 5),
                ("999999-1", 6), ("1,2", 3), ("1,2,", 3), ("1-3,4", 5), ("1-3,4,9", 5), ("1-3,3", 5), ("1-3,2-9", 5), ("5,1", 3), ("1-3,40", None),
                ("5,6-9", 3), ("900000,1", 7), ("900000,9", 8), ("900000,9,", 8), ("900000,8", 7), ("900000,900001", 12), ("900000,900001-", 12)):
            self.wrong(text, at)

    def test_drawn(self):
        chance = random.Random(55)
        kept = 0
        for _ in range(6000):
            text = "".join(chance.choices("0123999--,,", k=chance.randrange(9)))
            kept += wrong_place(text) is None
            self.check(text)
        for _ in range(3000):
            ends = sorted(chance.sample(list(range(1, 40)) + list(range(999980, 1000000)) + [300, 4000, 50000], 6))
            text = f"{ends[0]}-{ends[1]},{ends[2]},{ends[3]}-{ends[4]},{ends[5]}"
            at = chance.randrange(len(text))
            kept += wrong_place(text) is None
            self.check(text)
            self.check(text[:at] + chance.choice("0129-,x") + text[at + chance.randrange(2):])
            self.check(text[:at])
        self.assertGreater(kept, 1000)


class SetTest(unittest.TestCase):
    def check(self, one, other):
        told = marks_of(numbers(one) | numbers(other))
        self.assertEqual(joined_marks(one, other), told)
        self.assertEqual(joined_marks(other, one), told)
        self.assertEqual(marks_without(one, other), marks_of(numbers(one) - numbers(other)))

    def test_each_end(self):
        base = ((10, 20), (30, 30), (40, 50))
        for first in range(5, 56):
            for last in range(first, 57):
                self.check(base, ((first, last),))
                self.check(((first, last),), base)

    def test_empty(self):
        self.check((), ())
        self.check(((1, 3),), ())
        self.check((), ((1, 3),))

    def test_limits(self):
        self.check(((1, 5), (LAST - 3, LAST)), ((1, 1), (LAST, LAST)))
        self.check(((1, 1), (LAST, LAST)), ((2, 2), (LAST - 1, LAST - 1)))
        self.assertEqual(joined_marks(((1, 500000),), ((500001, LAST),)), ((1, LAST),))
        self.assertEqual(marks_without(((1, LAST),), ((1, LAST),)), ())
        self.assertEqual(marks_without(((1, LAST),), ((2, LAST - 1),)), ((1, 1), (LAST, LAST)))

    def test_drawn(self):
        chance = random.Random(56)
        for _ in range(1500):
            shares = chance.choices((0.1, 0.5, 0.9), k=2)
            one, other = ({number for number in range(1, 30) if chance.random() < share} for share in shares)
            self.check(marks_of(one), marks_of(other))


class NumberTest(unittest.TestCase):
    def test_marked(self):
        marks = ((1, 3), (5, 5), (9, 12), (LAST, LAST))
        for number in list(range(0, 20)) + [LAST - 1, LAST, LAST + 1]:
            self.assertIs(marked(marks, number), number in numbers(marks))
            self.assertIs(marked((), number), False)

    def test_next_new(self):
        marks = ((1, 3), (5, 5), (9, 12), (LAST - 1, LAST))
        for number in list(range(0, 20)) + [LAST - 3, LAST - 2, LAST - 1, LAST]:
            told = next(other for other in range(number + 1, LAST + 2) if other not in numbers(marks))
            self.assertEqual(next_new(marks, number), told)
            self.assertEqual(next_new((), number), number + 1)
        self.assertEqual(next_new(((1, LAST),), 0), 1000000)
        self.assertEqual(next_new(((1, 7),), 0), 8)
        self.assertEqual(next_new(((2, 7),), 0), 1)
        self.assertEqual(next_new((), LAST), 1000000)
