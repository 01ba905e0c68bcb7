"""Sites, which keep their tables on a disk."""

from criermoot.blocks import pieces
from criermoot.deeds import do_deed, tables_after
from criermoot.errors import Fallen
from criermoot.ledger import Ledger
from criermoot.names import id_of
from criermoot.notices import write_notice
from criermoot.views import in_order, may_show


class Site:
    """A site that is up."""

    def __init__(self, book, name):
        self._book = book
        self._name = name
        self.ledger = Ledger()
        self._tables = tables_after(book, name, ())

    @classmethod
    def woken(cls, book, name, disk, clock):
        """The site that wakes with this disk at this clock."""
        site = cls(book, name)
        site.ledger = Ledger(disk)
        site.read_disk()
        site.tick(clock)
        return site

    def read_disk(self):
        """Makes the tables that the disk tells."""
        self._tables = tables_after(self._book, self._name, self.ledger.contents())

    def change(self, *deed):
        """Does a deed, and adds it to the disk if it changes the tables, which is told; raises Fallen."""
        if not do_deed(self._tables, deed):
            return False
        try:
            self.ledger.add(deed)
        except Fallen:
            # Whether the deed is done is a matter of what the disk has of it.
            self.read_disk()
            raise
        return True

    def post(self, clock, person, boards, subject, refs, kind, body):
        """Posts a notice; its id, or None if nothing is done."""
        if self.change("post", clock, person, boards, subject, refs, kind, body):
            return (self._name, self._tables.number)
        return None

    def take(self, clock, hops, notice):
        """Takes a notice."""
        self.change("take", clock, hops, notice)

    def near(self, clock, id, hops):
        """Lowers the hops of a notice."""
        self.change("near", clock, id, hops)

    def keep(self, clock, neighbour, key, letter):
        """Keeps a letter that a neighbour gave."""
        self.change("keep", clock, neighbour, key, letter)

    def cleared(self, neighbour, key):
        """Clears the key of a letter that a neighbour gave."""
        self.change("cleared", neighbour, key)

    def settle(self, clock, neighbour, key, result, hops):
        """Does what a talk with a neighbour settles, which began when the shelf had these hops."""
        self.change("settle", clock, neighbour, key, result, hops)

    def decide(self, clock, address, id, verdict):
        """Gives a verdict by hand; whether something was held there."""
        is_held = (address, id) in self._tables.submissions
        self.change("decide", clock, address, id, verdict)
        return is_held

    def tick(self, clock):
        """Forgets what is too old."""
        self.change("tick", clock)

    def renew(self):
        """Renews the disk."""
        self.ledger.renew((("tables", self._tables.kept_value()),))

    def has_work(self, neighbour):
        """Whether there is something to hand on to a neighbour."""
        return len(self._tables.queues[neighbour]) > 0 or len(self._tables.uncleared[neighbour]) > 0

    def item_of(self, key):
        """The item of a key in a queue."""
        id = id_of(key)
        if id is None:
            return ("letter", key, pieces(self._tables.letters[key]))
        hops, notice = self._tables.shelf[id]
        return ("notice", key, hops + 1, notice[3], write_notice(notice))

    def items_for(self, neighbour):
        """The items of a talk with a neighbour that begins now."""
        return tuple([self.item_of(key) for key in self._tables.queues[neighbour]])

    def clears_for(self, neighbour):
        """The keys to be cleared in a talk with a neighbour that begins now."""
        return tuple(self._tables.uncleared[neighbour])

    def known(self):
        """The known ids with their hops."""
        return {id: hops for id, (hops, _) in self._tables.known_ids.items()}

    def kept_from(self, neighbour):
        """The keys of letters that are kept for a neighbour, in the order in which they came."""
        return tuple(self._tables.given[neighbour])

    def shown(self, clock, board):
        """The pairs of numbers and ids that are shown on a board, in the order of dates and ids."""
        tables = self._tables
        notices = [notice for id, (_, notice) in tables.shelf.items()
                   if id not in tables.hidden and may_show(tables.entry, notice, clock, board)]
        return tuple([(tables.places[id][board], id) for id in in_order(notices)])

    def notice(self, id):
        """The notice of an id on the shelf, None if there is none."""
        return self._tables.shelf.get(id, (0, None))[1]

    def box(self, address):
        """The ids in a box, in the order in which they came."""
        return self._tables.desk.box(address)

    def told(self, address):
        """The pairs of ids and verdicts that an address was told, in order."""
        return tuple(self._tables.notes.get(address, []))

    def held(self, address):
        """The ids that are held at an address, ascending."""
        return tuple(sorted([id for goal, id in self._tables.submissions if goal == address]))

    def since(self, board, stamp):
        """The answer of the story of a board."""
        return self._tables.story_of(board).since(stamp)

    def taken(self):
        """The pairs of all ids that were ever taken and of their fewest hops, ascending."""
        return tuple(sorted([(id, hops) for id, (hops, _) in self._tables.ever.items()]))

    def twice(self):
        """The ids that were taken more than once, ascending."""
        return tuple(sorted([id for id, (_, times) in self._tables.ever.items() if times > 1]))

    def posted(self):
        """The notices that were taken at 0 hops, in order."""
        return tuple(self._tables.posts)
