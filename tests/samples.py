"""Things that several tests use."""

from criermoot.errors import BadText
from criermoot.marks import mark_of
from criermoot.notices import read_notice

CHARACTERS = "".join(chr(code) for code in range(32, 127) if code != 37)
HEADS = ("Id: 5@mill", "From: ann@mill", "Date: 12", "Boards: town.fish", "Subject: Fresh today")
TEXT = ("text", "plain", ("Come soon.", "."))


def notice(**parts):
    """A notice that is right, but for the parts that are passed."""
    whole = {
        "word": "notice", "id": ("mill", 5), "author": "ann@mill", "date": 12, "boards": ("town.fish", "town.sale"),
        "subject": "Fresh today", "refs": (), "kind": ("post",), "seals": (), "body": TEXT,
    }
    assert not set(parts) - set(whole)
    whole.update(parts)
    return tuple(whole.values())


def marked(heads, behind, mark=None):
    """A text of these head rows, with a mark, and what stands behind it."""
    heads, behind = tuple(heads), tuple(behind)
    told = mark_of(heads + behind) if mark is None else mark
    return heads + (f"Mark: {told}",) + behind


def wrong_row(rows):
    """The number that BadText has for a text, None if it is read."""
    try:
        read_notice(tuple(rows))
    except BadText as wrong:
        return wrong.at
    return None
