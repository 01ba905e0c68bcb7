"""The codings of texts: plain and quoted."""

from criermoot.errors import BadText
from criermoot.signs import coded_character, is_row

MOST_ROWS = 20
LONGEST_ROW = 78


def units_of(row):
    """What stands for the characters of a row in a quoted one."""
    units = ["=3D" if sign == "=" else sign for sign in row]
    if row.endswith(" "):
        units[-1] = "=20"
    return units


def quoted_row(row, width):
    """The coded rows of one row."""
    units = units_of(row)
    rows = []
    at = 0
    while len("".join(units[at:])) > width:
        text = ""
        while len(text) + len(units[at]) <= width - 1:
            text = text + units[at]
            at += 1
        rows.append(text + "=")
    rows.append("".join(units[at:]))
    return rows


def coded_text(coding, rows, width):
    """The coded rows of a text."""
    if coding == "plain":
        return tuple(rows)
    found = []
    for row in rows:
        found.extend(quoted_row(row, width))
    return tuple(found)


def unquoted(row):
    """The text of a quoted row, and whether the next one is joined to it; None if it is wrong."""
    text = ""
    at = 0
    while at < len(row):
        if row[at] != "=":
            text = text + row[at]
            at += 1
        elif at == len(row) - 1:
            return (text, True)
        else:
            sign = coded_character(row[at + 1:at + 3])
            if sign is None:
                return None
            text = text + sign
            at += 3
    return (text, False)


def decoded_quoted(rows):
    """The rows whose quoted rows these are."""
    found = []
    begun = None
    for at, row in enumerate(rows):
        told = unquoted(row)
        if told is None or (begun is None and len(found) == MOST_ROWS):
            raise BadText(at)
        whole = told[0] if begun is None else begun + told[0]
        if len(whole) > LONGEST_ROW:
            raise BadText(at)
        if told[1]:
            begun = whole
        else:
            found.append(whole)
            begun = None
    if begun is not None:
        raise BadText(len(rows))
    return tuple(found)


def decoded_text(coding, rows):
    """The rows of the text whose coded rows these are."""
    if coding == "quoted":
        return decoded_quoted(rows)
    for at, row in enumerate(rows):
        if at == MOST_ROWS or not is_row(row, LONGEST_ROW):
            raise BadText(at)
    return tuple(rows)
