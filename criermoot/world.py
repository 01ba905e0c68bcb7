"""Worlds, in which acts are done."""

from criermoot.books import neighbours, wrong_part
from criermoot.errors import BadBook
from criermoot.machine import Machine, line_of
from criermoot.names import split_address


def depth(book):
    """The number of rounds behind which a world of the book rests."""
    return len(book[3]) * (3 * len(book[6]) + len(book[7]) + 2)


class World:
    """A world made of a book."""

    def __init__(self, book):
        part = wrong_part(book)
        if part is not None:
            raise BadBook(part)
        self._book = book
        self._machine = Machine(book)

    @property
    def time(self):
        """The time."""
        return self._machine.now

    def clock(self, site):
        """The clock of a site."""
        return self._machine.clock_of(site)

    def is_up(self, site):
        """Whether a site is up."""
        return site not in self._machine.down

    def is_whole(self, a, b):
        """Whether the line of two sites is whole."""
        return line_of(a, b) not in self._machine.broken

    def do(self, act):
        """Does an act, and returns what it tells."""
        word = act[0]
        if word in ("post", "verdict"):
            return self.do_person(act)
        if word in ("say", "hear", "talk", "cut"):
            return self.do_talk(word, (act[1], act[2]), act[3:])
        if word in ("break", "mend"):
            return self.do_line(word, act[1], act[2])
        if word == "round":
            return self._machine.hold_round()
        if word == "tick":
            return self._machine.tick()
        return self.do_site(word, act[1], act[2:])

    def play(self, acts):
        """Does acts one after the other, and yields what they return."""
        for act in acts:
            yield self.do(act)

    def do_person(self, act):
        """A person posts, or gives a verdict; the id of what is posted, otherwise None."""
        person, site = split_address(act[1])
        if not self.is_up(site):
            return None
        if act[0] == "post":
            return self._machine.call(site, ("post", person) + act[2:])
        self._machine.call(site, act)
        return None

    def do_talk(self, word, direction, told):
        """Does an act of the talk in a direction."""
        machine = self._machine
        if word == "cut":
            return machine.cut_talk(direction)
        if word == "talk":
            return machine.hold_talk(direction) is not None
        if word == "hear":
            return machine.taker_hears(direction) if told[0] == "taker" else machine.giver_hears(direction)
        if direction not in machine.talks:
            machine.begin_talk(direction)
        return machine.say_word(direction)

    def do_line(self, word, a, b):
        """A line breaks, or is mended."""
        if line_of(a, b) not in self._book[4]:
            return
        if word == "break":
            self._machine.break_line(a, b)
        else:
            self._machine.broken.pop(line_of(a, b), None)

    def do_site(self, word, site, told):
        """Something befalls a site."""
        machine = self._machine
        if word == "wake":
            if not self.is_up(site):
                machine.wake(site)
        elif self.is_up(site):
            if word == "fall":
                machine.let_fall(site)
            elif word == "renew":
                machine.call(site, ("renew",))
            else:
                machine.sites[site].ledger.trip(told[0], told[1])

    def underway(self, giver, taker):
        """The words on their way to the taker and to the giver, None without a talk."""
        talk = self._machine.talks.get((giver, taker))
        return None if talk is None else (tuple(talk.ahead), tuple(talk.back))

    def taken(self, site):
        """The pairs of all ids that a site has ever taken and of their fewest hops, ascending."""
        return self._machine.sites[site].taken()

    def twice(self):
        """The pairs of sites and ids that were taken more than once, ascending."""
        return tuple(sorted([(name, id) for name, site in self._machine.sites.items() for id in site.twice()]))

    def posted(self):
        """The posts, in the order in which they were posted or out."""
        return tuple(self._machine.posts)

    def shown(self, site, board):
        """The pairs of numbers and ids that a site shows on a board now."""
        return self._machine.sites[site].shown(self.clock(site), board) if self.is_up(site) else ()

    def box(self, address):
        """The ids in a box."""
        _, site = split_address(address)
        return self._machine.sites[site].box(address) if self.is_up(site) else ()

    def told(self, address):
        """The pairs of ids and verdicts that an address was told."""
        _, site = split_address(address)
        return self._machine.sites[site].told(address) if self.is_up(site) else ()

    def held(self, address):
        """The ids that are held at an address."""
        _, site = split_address(address)
        return self._machine.sites[site].held(address) if self.is_up(site) else ()

    def since(self, site, board, stamp):
        """The answer of the story of a board at a site."""
        return self._machine.sites[site].since(board, stamp) if self.is_up(site) else ()

    def bodies(self, giver, taker, key):
        """How many bodies of a key were begun in a direction."""
        return self._machine.begun.get((giver, taker, key), 0)

    def cuts(self, giver, taker, key):
        """How many talks in a direction were cut while the item of a key was open."""
        return self._machine.cut_off.get((giver, taker, key), 0)

    def rests(self):
        """Whether no site that is up has anything to hand on."""
        names = [entry[1] for entry in self._book[3]]
        work = [self._machine.has_work((name, other)) for name in names for other in neighbours(self._book, name)]
        return not any(work)
