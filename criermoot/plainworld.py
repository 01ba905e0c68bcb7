"""The plain world: what the posts of a book come to, whatever the machine does."""

from criermoot.lists import lists_for, members_of
from criermoot.notices import size_of
from criermoot.reach import reach
from criermoot.views import shown_of


def kind_of(origin, notice):
    """The kind of a posted notice."""
    return ("kind", origin, notice[4], size_of(notice))


class PlainWorld:
    """What each site has and shows, and what lies in each box."""

    def __init__(self, book, posts):
        self._book = book
        # For each site the notices by which it is reached, each with its hops.
        self._reached = {entry[1]: [] for entry in book[3]}
        self._boxes = {}
        for origin, notice in posts:
            for site, hops in reach(book, kind_of(origin, notice)):
                self.put_notice(site, hops, notice)

    def put_notice(self, site, hops, notice):
        """Keeps that a site is reached by a notice, and what its lists make of this."""
        self._reached[site].append((notice, hops))
        if notice[7][0] == "strike":
            return
        for address in lists_for(self._book, site, notice[4]):
            for member in members_of(self._book, address):
                self._boxes.setdefault(member, {})[notice[1]] = True

    def taken(self, site):
        """The pairs of the ids by which a site is reached and of their hops, ascending."""
        return tuple(sorted([(notice[1], hops) for notice, hops in self._reached[site]]))

    def shown(self, site, board, clock):
        """The ids that a site shows on a board at a clock, in the order of dates and ids."""
        return shown_of(self._book, site, [notice for notice, _ in self._reached[site]], clock, board)

    def box(self, address):
        """The ids in a box, ascending."""
        return tuple(sorted(self._boxes.get(address, {})))
