"""What a part of a body must keep."""

from criermoot.datacodings import MOST_BYTES
from criermoot.signs import is_row
from criermoot.textcodings import LONGEST_ROW, MOST_ROWS

TEXT_CODINGS = ("plain", "quoted")
DATA_CODINGS = ("pairs", "quads", "runs")
MOST_IN_PARTS = 4
MOST_PARTS = 12
MOST_AROUND = 3


def is_text(part):
    """Whether a tuple is a part that is a text."""
    if len(part) != 3 or part[0] != "text" or part[1] not in TEXT_CODINGS:
        return False
    return len(part[2]) <= MOST_ROWS and all([is_row(row, LONGEST_ROW) for row in part[2]])


def is_data(part):
    """Whether a tuple is a part that is data."""
    if len(part) != 3 or part[0] != "data" or part[1] not in DATA_CODINGS:
        return False
    return len(part[2]) <= MOST_BYTES and all([0 <= byte <= 255 for byte in part[2]])


def has_parts(part):
    """Whether a tuple has the form of parts, whatever these are."""
    return len(part) == 2 and part[0] == "parts" and 1 <= len(part[1]) <= MOST_IN_PARTS


def count_parts(part, around):
    """How many parts this is, which lies within so many others; None if one of them is wrong."""
    if around > MOST_AROUND:
        return None
    if is_text(part) or is_data(part):
        return 1
    if not has_parts(part):
        return None
    many = 1
    for inner in part[1]:
        more = count_parts(inner, around + 1)
        if more is None:
            return None
        many = many + more
    return many


def is_body(part):
    """Whether a part is a body."""
    many = count_parts(part, 0)
    return many is not None and many <= MOST_PARTS
