"""What a site shows that has taken some notices."""

from criermoot.books import site_of
from criermoot.patterns import lets
from criermoot.rights import has_right, hidden


def is_over(entry, notice, clock):
    """Whether the term of a site, given by its entry, is over for a notice at a clock."""
    return notice[3] + entry[4] < clock


def is_here(entry, notice, board):
    """Whether a site, given by its entry, can ever show a notice on a board."""
    return notice[7][0] != "strike" and board in notice[4] and lets(entry[5], board)


def may_show(entry, notice, clock, board):
    """Whether a site, given by its entry, can show a notice on a board at a clock, if nothing hides it."""
    return is_here(entry, notice, board) and not is_over(entry, notice, clock)


def in_order(notices):
    """The ids of some notices, in the order of dates and ids."""
    return tuple([notice[1] for notice in sorted(notices, key=lambda one: (one[3], one[1]))])


def shown_of(book, site, notices, clock, board):
    """The ids that a site shows that has taken just these notices, in the order of dates and ids."""
    entry = site_of(book, site)
    gone = hidden(book, notices)
    return in_order([notice for notice in notices if notice[1] not in gone and may_show(entry, notice, clock, board)])


class View:
    """What a site shows, made of one notice after the other."""

    def __init__(self, book, site):
        self._book = book
        self._entry = site_of(book, site)
        self._notices = {}
        # For each id the notices that came and name it to hide it, whether they have the right or not.
        self._naming = {}
        self._gone = {}

    def take(self, notice):
        """Takes a notice, again or for the first time."""
        id = notice[1]
        if id in self._notices:
            return
        self._notices[id] = notice
        if any([has_right(self._book, other, notice) for other in self._naming.get(id, [])]):
            self._gone[id] = True
        if notice[7][0] != "post":
            self.keep_naming(notice, notice[7][1])

    def keep_naming(self, notice, id):
        """Keeps that a notice names an id to hide it, and hides what has come of this id."""
        self._naming.setdefault(id, []).append(notice)
        if id in self._notices and has_right(self._book, notice, self._notices[id]):
            self._gone[id] = True

    def shown(self, board, *, clock):
        """The ids that are shown on a board, in the order of dates and ids."""
        left = [notice for id, notice in self._notices.items() if id not in self._gone]
        return in_order([notice for notice in left if may_show(self._entry, notice, clock, board)])
