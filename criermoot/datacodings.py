"""The codings of data: pairs, quads and runs."""

from criermoot.errors import BadText
from criermoot.signs import byte_of, byte_text, number_of

MOST_BYTES = 120
LONGEST_RUN = 99
QUAD_DIGITS = "0123456789ABCDEFGHIJKLMNOPQRSTUVWXYZabcdefghijklmnopqrstuvwxyz+-"


def cut(things, length):
    """A string or a tuple cut into pieces of this length; the last one can be shorter."""
    return [things[at:at + length] for at in range(0, len(things), length)]


def quad_text(data):
    """The digits of one, two or three bytes."""
    number = 0
    for place in range(3):
        number = 256 * number + (data[place] if place < len(data) else 0)
    digits = ""
    for _ in range(4):
        digits = QUAD_DIGITS[number & 63] + digits
        number = number >> 6
    # A digit that only the filled up bits reach is left out.
    return digits[:len(data) + 1]


def run_texts(data):
    """The texts of the longest runs of equal neighbouring bytes."""
    texts = []
    at = 0
    while at < len(data):
        many = 1
        while many < LONGEST_RUN and at + many < len(data) and data[at + many] == data[at]:
            many += 1
        texts.append(f"{many}x{byte_text(data[at])}")
        at += many
    return texts


def run_rows(texts, width):
    """Rows with as many runs as fit."""
    rows = []
    for text in texts:
        if rows and len(rows[-1]) + 1 + len(text) <= width:
            rows[-1] = rows[-1] + " " + text
        else:
            rows.append(text)
    return rows


def coded_data(coding, data, width):
    """The coded rows of data."""
    if coding == "pairs":
        return tuple(cut("".join([byte_text(byte) for byte in data]), width // 2 * 2))
    if coding == "quads":
        digits = "".join([quad_text(some) for some in cut(data, 3)])
        return tuple(cut(digits, width // 4 * 4))
    return tuple(run_rows(run_texts(data), width))


def pair_bytes(row):
    """The bytes of a row of pairs, None if it is wrong."""
    if row == "":
        return None
    found = [byte_of(pair) for pair in cut(row, 2)]
    return None if None in found else found


def quad_bytes(digits):
    """The bytes of at most four digits, None if these are wrong."""
    number = 0
    for digit in digits:
        if digit not in QUAD_DIGITS:
            return None
        number = 64 * number + QUAD_DIGITS.index(digit)
    number = number << (6 * (4 - len(digits)))
    found = [number >> 16, (number >> 8) & 255, number & 255]
    many = len(digits) - 1
    # What stands behind the last byte must be nothing but bits 0.
    if many == 0 or sum(found[many:]) > 0:
        return None
    return found[:many]


def quads_bytes(row):
    """The bytes of a row of quads, None if it is wrong."""
    if row == "":
        return None
    found = []
    for digits in cut(row, 4):
        some = quad_bytes(digits)
        if some is None:
            return None
        found.extend(some)
    return found


def runs_bytes(row):
    """The bytes of a row of runs, None if it is wrong."""
    found = []
    for text in row.split(" "):
        digits, _, pair = text.partition("x")
        many = number_of(digits, len(str(LONGEST_RUN)))
        byte = byte_of(pair)
        if many is None or many == 0 or byte is None:
            return None
        found.extend([byte] * many)
    return found


def row_bytes(coding, row):
    """The bytes of a coded row, None if it does not fit its coding."""
    if coding == "pairs":
        return pair_bytes(row)
    if coding == "quads":
        return quads_bytes(row)
    return runs_bytes(row)


def decoded_data(coding, rows):
    """The bytes whose coded rows these are."""
    found = []
    ended = False
    for at, row in enumerate(rows):
        some = row_bytes(coding, row)
        if ended or some is None or len(found) + len(some) > MOST_BYTES:
            raise BadText(at)
        found.extend(some)
        ended = coding == "quads" and len(row) % 4 != 0
    return tuple(found)
