"""Values, areas and disks as the document defines them, without any haste."""

import re

LETTERS = "".join(chr(code) for code in range(32, 127) if code != 37)


def is_text(text):
    """Whether a string is the text of a value: its parts are put together until one value is left."""
    if any(sign not in LETTERS for sign in text):
        return False
    text = re.sub("'(?:[^']|'')*'", "\x01", text)
    text = re.sub("\x01|N|-?[1-9][0-9]{0,29}(?![0-9])|0(?![0-9])", "\x02", text)
    before = None
    while text != before:
        before = text
        text = re.sub("\\(\\)|\\(\x02(?: \x02)*\\)", "\x02", text)
    return text == "\x02"


def begins_text(text):
    """Whether a string is the beginning of such a text: some end closes what is open."""
    return any(is_text(text + end + ")" * many) for end in ("", "1", "'", "N") for many in range(text.count("(") + 1))


def wrong_place(text):
    """The place of the first wrong character, None if the text is that of a value."""
    if is_text(text):
        return None
    for place in range(len(text)):
        if not begins_text(text[:place + 1]):
            return place
    return len(text)


def text_of(value):
    if value is None:
        return "N"
    if isinstance(value, tuple):
        return "(" + " ".join(text_of(part) for part in value) + ")"
    return str(value) if isinstance(value, int) else "'" + value.replace("'", "''") + "'"


def blocks(generation, deed, value):
    text = text_of(value)
    rows = [text[at:at + 40] for at in range(0, len(text), 40)]
    told = [("row", generation, deed, place, row) for place, row in enumerate(rows)]
    return tuple(told) + (("end", generation, deed, len(rows)),)


def random_value(chance, depth=3):
    kind = chance.randrange(6)
    if kind == 0:
        return None
    if kind == 1:
        return chance.choice((0, 1, -1, 7, -12, 10 ** 29, 1 - 10 ** 30, chance.randrange(-10 ** 6, 10 ** 6)))
    if kind == 2 or depth == 0:
        return "".join(chance.choices("ab '()N1-" + LETTERS, k=chance.choice((0, 1, 3, 30, 60))))
    return tuple(random_value(chance, depth - 1) for _ in range(chance.randrange(5)))
