"""Lists, which send copies of notices to their members, and the boxes into which these come."""

from criermoot.books import site_of
from criermoot.letters import copy_to
from criermoot.names import split_address
from criermoot.patterns import lets
from criermoot.routes import distances


def list_of(book, address):
    """The entry of a list, None if the address is no list's."""
    for entry in book[7]:
        if entry[1] == address:
            return entry
    return None


def near_members(book, entry):
    """The members of a list to whose sites lines lead from its own, in order."""
    found = distances(book, split_address(entry[1])[1])
    return [member for member in entry[3] if split_address(member)[1] in found]


def members_of(book, address):
    """The members of members of a list, ascending."""
    met = {address: True}
    left = [address]
    persons = []
    while left:
        entry = list_of(book, left.pop())
        for member in near_members(book, entry):
            if member not in met:
                met[member] = True
                if list_of(book, member) is None:
                    persons.append(member)
                else:
                    left.append(member)
    return tuple(sorted(persons))


def lists_for(book, site, boards):
    """The addresses of the lists of a site that expand a notice with these boards, in the order of the book."""
    pattern = site_of(book, site)[5]
    at_site = [entry for entry in book[7] if split_address(entry[1])[1] == site]
    return tuple([entry[1] for entry in at_site if entry[2] in boards and lets(pattern, entry[2])])


class ListDesk:
    """The lists and the boxes of a site."""

    def __init__(self, book, site):
        self._book = book
        self._site = site
        # For each list of the site the ids that it has expanded, and for each address those in its box.
        self._expanded = {}
        self._boxes = {}

    def take(self, notice):
        """The letters that the lists of the site send when it takes a notice."""
        found = []
        if notice[7][0] != "strike":
            for address in lists_for(self._book, self._site, notice[4]):
                found.extend(self.expand(address, notice))
        return tuple(found)

    def expand(self, address, notice):
        """The letters by which a list expands a notice, unless it has done so."""
        ids = self._expanded.setdefault(address, {})
        if notice[1] in ids:
            return []
        ids[notice[1]] = True
        return [copy_to(notice, address, member) for member in near_members(self._book, list_of(self._book, address))]

    def hear(self, letter):
        """The letters that are sent when a copy for an address of the site comes."""
        goal, load = letter[2:]
        if list_of(self._book, goal) is not None:
            return tuple(self.expand(goal, load[1]))
        self._boxes.setdefault(goal, {})[load[1][1]] = True
        return ()

    def box(self, address):
        """The ids in a box, in the order in which they came."""
        return tuple(self._boxes.get(address, {}))

    def kept_value(self):
        """A value of all that is kept."""
        expanded = [(address, tuple(ids)) for address, ids in self._expanded.items()]
        boxes = [(address, tuple(ids)) for address, ids in self._boxes.items()]
        return (tuple(expanded), tuple(boxes))

    def put_value(self, value):
        """Puts such a value of a desk of the same site in place."""
        expanded, boxes = value
        self._expanded = {address: {id: True for id in ids} for address, ids in expanded}
        self._boxes = {address: {id: True for id in ids} for address, ids in boxes}
