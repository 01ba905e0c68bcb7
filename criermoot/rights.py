"""Who has the right to hide a notice."""

from criermoot.books import steward_of


def has_right(book, notice, other):
    """Whether the first notice has the right to hide the other one."""
    word = notice[7][0]
    if word == "post" or notice[7][1] != other[1] or other[7][0] == "strike":
        return False
    if notice[2] == other[2]:
        return True
    return word == "strike" and notice[2] in [steward_of(book, board) for board in other[4]]


def hidden(book, notices):
    """The ids of those of some notices that are hidden, ascending."""
    by_id = {notice[1]: notice for notice in notices}
    found = []
    for notice in notices:
        other = by_id.get(notice[7][1]) if notice[7][0] != "post" else None
        if other is not None and has_right(book, notice, other):
            found.append(other[1])
    return tuple(sorted(set(found)))
