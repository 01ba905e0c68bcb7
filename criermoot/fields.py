"""What the parts of a notice ahead of its body must keep."""

from criermoot.names import is_address, is_board, is_id, split_address
from criermoot.signs import are_different, is_row

MOST_BOARDS = 3
MOST_REFS = 6
MOST_SEALS = 8
LONGEST_SUBJECT = 120
LAST_DATE = 9999999


def is_author(text, id):
    """Whether a string is an address with the site of an id."""
    return is_address(text) and split_address(text)[1] == id[0]


def is_date(number):
    """Whether an integer is a date."""
    return 0 <= number <= LAST_DATE


def are_boards(boards):
    """Whether these can be the boards of a notice."""
    if not 1 <= len(boards) <= MOST_BOARDS or not are_different(boards):
        return False
    return all([is_board(board) for board in boards])


def is_subject(text):
    """Whether a string is a subject."""
    return is_row(text, LONGEST_SUBJECT)


def is_other_id(id, own):
    """Whether a pair is an id other than this one."""
    return is_id(id) and id != own


def are_refs(refs, own):
    """Whether these can be the refs of a notice with this id."""
    if len(refs) > MOST_REFS or not are_different(refs):
        return False
    return all([is_other_id(id, own) for id in refs])


def is_kind(kind, own):
    """Whether this can be the kind of a notice with this id."""
    if kind == ("post",):
        return True
    if len(kind) != 2 or kind[0] not in ("strike", "replace"):
        return False
    return is_other_id(kind[1], own)


def are_seals(seals):
    """Whether these can be the seals of a notice."""
    if len(seals) > MOST_SEALS or not are_different(seals):
        return False
    return all([is_address(seal) for seal in seals])
