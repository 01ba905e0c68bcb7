"""The letters of the three kinds, and their keys."""

from criermoot.books import needed_seals
from criermoot.names import id_text


def missing_seals(book, notice):
    """The seals that a notice needs and does not have, in order."""
    if notice[7][0] == "strike":
        return ()
    return tuple([address for address in needed_seals(book, notice[4]) if address not in notice[8]])


def submitted_to(notice, goal, needed, seen):
    """The letter by which a notice is submitted to a steward, for the seal of the needed one."""
    key = f"s:{id_text(notice[1])}:{len(notice[8])}:{len(seen)}"
    return ("letter", key, goal, ("submit", notice, needed, seen))


def submission(book, notice):
    """The letter by which a notice that needs seals is submitted, None if it has all that it needs."""
    missing = missing_seals(book, notice)
    return submitted_to(notice, missing[0], missing[0], ()) if missing else None


def note_to(notice, verdict):
    """The letter that tells the author of a notice what became of it."""
    return ("letter", f"n:{id_text(notice[1])}", notice[2], ("note", notice[1], verdict))


def copy_to(notice, list_address, member):
    """The letter by which a list sends a copy of a notice to a member."""
    key = f"c:{id_text(notice[1])}:{list_address}:{member}"
    return ("letter", key, member, ("copy", notice, list_address))
