"""The words of a talk."""

from criermoot.errors import BadWord
from criermoot.names import is_name
from criermoot.signs import is_row, number_of

LONGEST_KEY = 60
LONGEST_HOPS = 3
LONGEST_DATE = 7

# What stands behind the first part of each word, in order.
FORMS = {
    "open": ("name", "name"),
    "offer": ("key", "hops", "date"),
    "bring": ("key",),
    "body": ("key",),
    ".": (),
    "clear": ("key",),
    "close": (),
    "ready": (),
    "want": ("key",),
    "have": ("key",),
    "old": ("key",),
    "took": ("key",),
    "spoilt": ("key",),
    "cleared": ("key",),
    "closed": (),
}


def is_key(text):
    """Whether a string without blanks is a key."""
    return text != "" and is_row(text, LONGEST_KEY)


def read_part(form, text):
    """A part of this form, None if the text is none."""
    if form == "name":
        return text if is_name(text) else None
    if form == "key":
        return text if is_key(text) else None
    return number_of(text, LONGEST_HOPS if form == "hops" else LONGEST_DATE)


def read_word(word):
    """The tuple of the parts of a word that is no row of a body; raises BadWord."""
    texts = word.split(" ")
    forms = FORMS.get(texts[0])
    if forms is None or len(texts) != 1 + len(forms):
        raise BadWord(word)
    found = [read_part(form, text) for form, text in zip(forms, texts[1:])]
    if None in found:
        raise BadWord(word)
    return (texts[0],) + tuple(found)


def write_word(parts):
    """The word with these parts."""
    return " ".join([str(part) for part in parts])


def stuffed(row):
    """A row of a body as a word."""
    return "." + row if row.startswith(".") else row


def unstuffed(word):
    """The row of a body that is said by a word."""
    return word[1:] if word.startswith(".") else word
