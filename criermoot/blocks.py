"""The texts of values, and the blocks in which disks keep them."""

from criermoot.datacodings import cut
from criermoot.errors import BadValue
from criermoot.signs import CHARACTERS, DIGITS

LONGEST_INTEGER = 30
LONGEST_PIECE = 40


def string_text(value):
    """The text of a string."""
    doubled = value.replace("'", "''")
    return f"'{doubled}'"


def value_text(value):
    """The text of a value."""
    if value is None:
        return "N"
    if isinstance(value, int):
        return str(value)
    if isinstance(value, str):
        return string_text(value)
    inner = " ".join([value_text(part) for part in value])
    return f"({inner})"


class ValueReader:
    """The text of a value, which is read from its first character on."""

    def __init__(self, text):
        self.text = text
        self.at = 0

    def sign(self):
        """The character at the place that was reached, the empty string behind the last one."""
        return self.text[self.at] if self.at < len(self.text) else ""

    def read_sign(self, sign):
        """Goes on behind this character, which must stand here."""
        if self.sign() != sign:
            raise BadValue(self.at)
        self.at += 1

    def is_digit(self):
        """Whether a digit stands here."""
        return self.sign() != "" and self.sign() in DIGITS

    def read_integer(self):
        """The integer that begins here."""
        begin = self.at
        if self.sign() == "-":
            self.at += 1
        first = self.at
        # A sign is followed by other digits than 0, and what begins with 0 has no further one.
        if not self.is_digit() or (first > begin and self.sign() == "0"):
            raise BadValue(first)
        self.at += 1
        while self.is_digit():
            if self.text[first] == "0" or self.at - first == LONGEST_INTEGER:
                raise BadValue(self.at)
            self.at += 1
        return int(self.text[begin:self.at])

    def read_string(self):
        """The string that begins here."""
        self.read_sign("'")
        found = self.read_quoted()
        while self.sign() == "'":
            self.at += 1
            found = found + "'" + self.read_quoted()
        return found

    def read_quoted(self):
        """What stands ahead of the next quote; goes on behind that."""
        begin = self.at
        end = self.text.find("'", begin)
        self.at = len(self.text) if end == -1 else end
        found = self.text[begin:self.at]
        for place, sign in enumerate(found):
            if sign not in CHARACTERS:
                raise BadValue(begin + place)
        self.read_sign("'")
        return found

    def read_tuple(self):
        """The tuple that begins here."""
        self.read_sign("(")
        found = []
        if self.sign() != ")":
            found.append(self.read_value())
        while self.sign() == " ":
            self.at += 1
            found.append(self.read_value())
        self.read_sign(")")
        return tuple(found)

    def read_value(self):
        """The value that begins here."""
        sign = self.sign()
        if sign == "(":
            return self.read_tuple()
        if sign == "'":
            return self.read_string()
        if sign == "N":
            self.at += 1
            return None
        return self.read_integer()


def value_of(text):
    """The value with this text; raises BadValue."""
    reader = ValueReader(text)
    value = reader.read_value()
    if reader.at < len(text):
        raise BadValue(reader.at)
    return value


def pieces(value):
    """The tuple of the pieces of a value."""
    return tuple(cut(value_text(value), LONGEST_PIECE))


def deed_blocks(generation, deed, value):
    """The blocks of a deed."""
    rows = [("row", generation, deed, place, piece) for place, piece in enumerate(pieces(value))]
    return tuple(rows + [("end", generation, deed, len(rows))])
