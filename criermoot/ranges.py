"""Marks, which tell the numbers that a reader has seen."""

from criermoot.errors import BadMarks
from criermoot.signs import DIGITS

LAST_MARK = 999999
MOST_DIGITS = 6


def greatest_of(digits):
    """The greatest number of marks that begins with these digits."""
    return int(digits + "9" * (MOST_DIGITS - len(digits)))


class MarksReader:
    """A text of marks, which is read character by character."""

    def __init__(self):
        self.marks = []
        # The least number that may stand where one is read, its digits, and behind a dash the number ahead of it.
        self.least = 1
        self.digits = ""
        self.first = None

    def may_stand(self, sign):
        """Whether a character goes on to the beginning of a text of marks."""
        if sign in DIGITS:
            digits = self.digits + sign
            return digits[0] != "0" and len(digits) <= MOST_DIGITS and greatest_of(digits) >= self.least
        if sign == "-":
            return self.first is None and self.is_number() and int(self.digits) < LAST_MARK
        # Behind a comma a number follows that is greater at least by two.
        return sign == "," and self.is_number() and int(self.digits) + 2 <= LAST_MARK

    def is_number(self):
        """Whether the digits that were read are a number that may stand here."""
        return self.digits != "" and int(self.digits) >= self.least

    def read_sign(self, sign):
        """Reads a character that may stand here."""
        if sign in DIGITS:
            self.digits = self.digits + sign
        elif sign == "-":
            self.first = int(self.digits)
            self.least = self.first + 1
            self.digits = ""
        else:
            self.end_range()

    def end_range(self):
        """Ends a range with the number that was read."""
        last = int(self.digits)
        self.marks.append((last if self.first is None else self.first, last))
        self.least = last + 2
        self.digits = ""
        self.first = None


def read_marks(text):
    """The marks of a text; raises BadMarks."""
    reader = MarksReader()
    for at, sign in enumerate(text):
        if not reader.may_stand(sign):
            raise BadMarks(at)
        reader.read_sign(sign)
    if text != "":
        if not reader.is_number():
            raise BadMarks(len(text))
        reader.end_range()
    return tuple(reader.marks)


def range_text(first, last):
    """The text of a range."""
    return str(first) if first == last else f"{first}-{last}"


def write_marks(marks):
    """The text of marks."""
    return ",".join([range_text(first, last) for first, last in marks])


def joined_marks(marks, other):
    """The marks of all numbers that are marked by the one or by the other."""
    found = []
    for first, last in sorted(marks + other):
        if found and first <= found[-1][1] + 1:
            found[-1] = (found[-1][0], max(found[-1][1], last))
        else:
            found.append((first, last))
    return tuple(found)


def range_without(first, last, other):
    """The ranges of a range without other marks."""
    found = []
    for begin, end in other:
        if begin <= last and end >= first:
            if first < begin:
                found.append((first, begin - 1))
            first = end + 1
    if first <= last:
        found.append((first, last))
    return found


def marks_without(marks, other):
    """The marks of all numbers that are marked by the first and not by the other."""
    found = []
    for first, last in marks:
        found.extend(range_without(first, last, other))
    return tuple(found)


def range_of(marks, number):
    """The range in which a number is, None if it is not marked."""
    for first, last in marks:
        if first <= number <= last:
            return (first, last)
    return None


def marked(marks, number):
    """Whether a number is marked."""
    return range_of(marks, number) is not None


def next_new(marks, number):
    """The least greater number that is not marked."""
    found = range_of(marks, number + 1)
    return number + 1 if found is None else found[1] + 1
