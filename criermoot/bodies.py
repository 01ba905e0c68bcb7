"""The rows of a body, and reading them."""

from criermoot.codings import coded, decoded
from criermoot.errors import BadText
from criermoot.parts import DATA_CODINGS, MOST_AROUND, MOST_IN_PARTS, MOST_PARTS, TEXT_CODINGS
from criermoot.signs import number_of

LONGEST_PARTS_NUMBER = 6


def begin_row(number):
    """The row ahead of each of the parts with this number."""
    return f"--{number}"


def end_row(number):
    """The row behind the last of the parts with this number."""
    return f"--{number}--"


def free_number(rows):
    """The least number whose delimiters are none of the rows."""
    number = 0
    while begin_row(number) in rows or end_row(number) in rows:
        number += 1
    return number


def body_rows(body, width):
    """The rows of a body, or of a part of one."""
    if body[0] != "parts":
        return (f"Part: {body[0]} {body[1]}",) + coded(body, width)
    inner = [body_rows(part, width) for part in body[1]]
    number = free_number([row for rows in inner for row in rows])
    found = [f"Part: parts {number}"]
    for rows in inner:
        found.append(begin_row(number))
        found.extend(rows)
    found.append(end_row(number))
    return tuple(found)


def heading_of(row):
    """The pair that a heading tells, of the word and the coding or the number; None if it is none."""
    words = row.split(" ")
    if len(words) != 3 or words[0] != "Part:":
        return None
    if words[1] == "text" and words[2] in TEXT_CODINGS:
        return ("text", words[2])
    if words[1] == "data" and words[2] in DATA_CODINGS:
        return ("data", words[2])
    number = number_of(words[2], LONGEST_PARTS_NUMBER)
    if words[1] != "parts" or number is None:
        return None
    return ("parts", number)


class BodyReader:
    """The rows of a body, which are read from the first one on."""

    def __init__(self, rows):
        self.rows = rows
        self.at = 0
        self.headings = 0

    def row_is(self, row):
        """Whether this row stands at the place that was reached."""
        return self.at < len(self.rows) and self.rows[self.at] == row

    def read_heading(self, around):
        """What the heading tells that stands here, within parts with these numbers; goes on behind it."""
        told = heading_of(self.rows[self.at]) if self.at < len(self.rows) else None
        if told is None or told[1] in around:
            raise BadText(self.at)
        if self.headings == MOST_PARTS or len(around) > MOST_AROUND:
            raise BadText(self.at)
        self.headings += 1
        self.at += 1
        return told

    def read_part(self, around):
        """The part that begins here, within parts with these numbers; goes on behind it."""
        word, coding = self.read_heading(around)
        if word == "parts":
            return ("parts", self.read_parts(coding, around + (coding,)))
        return self.read_coded(word, coding, around)

    def read_coded(self, word, coding, around):
        """The text or the data whose coded rows begin here."""
        delimiters = [begin_row(number) for number in around] + [end_row(number) for number in around]
        begin = self.at
        while self.at < len(self.rows) and self.rows[self.at] not in delimiters:
            self.at += 1
        try:
            return decoded(word, coding, self.rows[begin:self.at])
        except BadText as wrong:
            raise BadText(begin + wrong.at)

    def read_parts(self, number, around):
        """The parts with this number, the first of whose delimiters must stand here."""
        if not self.row_is(begin_row(number)):
            raise BadText(self.at)
        found = []
        while self.row_is(begin_row(number)):
            if len(found) == MOST_IN_PARTS:
                raise BadText(self.at)
            self.at += 1
            found.append(self.read_part(around))
        if not self.row_is(end_row(number)):
            raise BadText(self.at)
        self.at += 1
        return tuple(found)


def read_body(rows):
    """The body with these rows; raises BadText."""
    reader = BodyReader(rows)
    body = reader.read_part(())
    if reader.at < len(rows):
        raise BadText(reader.at)
    return body
