"""The signs of which rows are made, and the numbers that are written with them."""

LETTERS = "abcdefghijklmnopqrstuvwxyz"
DIGITS = "0123456789"
HEX_DIGITS = "0123456789ABCDEF"

# All characters but the percent sign, which no string of the program has.
CHARACTERS = " !\"#$&'()*+,-./0123456789:;<=>?@ABCDEFGHIJKLMNOPQRSTUVWXYZ[\\]^_`abcdefghijklmnopqrstuvwxyz{|}~"


def is_row(text, longest):
    """Whether a string is a row of at most so many characters."""
    return len(text) <= longest and all([sign in CHARACTERS for sign in text])


def number_of(text, longest):
    """The number of at most so many digits that is written so, None if there is none."""
    if text == "" or len(text) > longest or not all([sign in DIGITS for sign in text]):
        return None
    if text[0] == "0" and text != "0":
        return None
    return int(text)


def byte_text(byte):
    """The two hexadecimal digits of a byte."""
    return HEX_DIGITS[byte // 16] + HEX_DIGITS[byte & 15]


def byte_of(text):
    """The byte that is written with two hexadecimal digits, None if the text is another one."""
    if len(text) != 2 or text[0] not in HEX_DIGITS or text[1] not in HEX_DIGITS:
        return None
    return 16 * HEX_DIGITS.index(text[0]) + HEX_DIGITS.index(text[1])


def coded_character(text):
    """The character whose code is written with two hexadecimal digits, None if there is none."""
    code = byte_of(text)
    if code is None:
        return None
    for sign in CHARACTERS:
        if ord(sign) == code:
            return sign
    return None


def are_different(things):
    """Whether nothing stands twice among these."""
    return len(set(things)) == len(things)
