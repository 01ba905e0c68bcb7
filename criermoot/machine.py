"""The machine of a world: its sites, the talks over their lines, and the time."""

from criermoot.blocks import value_of
from criermoot.books import neighbours
from criermoot.errors import Fallen
from criermoot.sites import Site
from criermoot.talks import Talk
from criermoot.tries import Tries, directions_of


def line_of(site, other):
    """The line of two sites, given in either order."""
    return (min(site, other), max(site, other))


def event_call(giver, event):
    """What a site does by an event of its taker in a talk with this giver."""
    if event[0] == "keep":
        return ("keep", giver, event[1], value_of("".join(event[2])))
    if event[0] == "clear":
        return ("clear", giver, event[1])
    return event


def call_site(site, clock, asked):
    """Calls a method of a site, given by a word, with further arguments; raises Fallen."""
    word = asked[0]
    told = asked[1:]
    if word == "post":
        return site.post(clock, *told)
    if word == "verdict":
        return site.decide(clock, *told)
    if word == "take":
        return site.take(clock, *told)
    if word == "near":
        return site.near(clock, *told)
    if word == "keep":
        return site.keep(clock, *told)
    if word == "clear":
        return site.cleared(*told)
    if word == "settle":
        return site.settle(clock, *told)
    if word == "renew":
        return site.renew()
    return site.tick(clock)


def add_one(table, key):
    """Counts one more of a key in a table."""
    table[key] = table.get(key, 0) + 1


class Machine:
    """What happens in a world, without the words for it."""

    def __init__(self, book):
        self.book = book
        self.now = 0
        self.offsets = {entry[1]: entry[2] for entry in book[3]}
        # A site that is down stays here as its disk tells it.
        self.sites = {name: Site(book, name) for name in self.offsets}
        self.down = {}
        self.broken = {}
        self.directions = directions_of(book)
        self.talks = {}
        self.tries = Tries(book)
        # What was posted, and how much of it at each site.
        self.posts = []
        self.posts_at = {name: 0 for name in self.offsets}
        # How many bodies were begun and how many talks were cut, by givers, takers and keys.
        self.begun = {}
        self.cut_off = {}

    def clock_of(self, name):
        """The clock of a site."""
        return self.now + self.offsets[name]

    def call(self, name, asked):
        """What a site that is up returns to a call, None if it falls."""
        told = None
        try:
            told = call_site(self.sites[name], self.clock_of(name), asked)
        except Fallen:
            self.let_fall(name)
        new = self.sites[name].posted()[self.posts_at[name]:]
        self.posts.extend([(name, notice) for notice in new])
        self.posts_at[name] += len(new)
        return told

    def let_fall(self, name):
        """A site falls, which cuts its talks."""
        self.down[name] = True
        for other in neighbours(self.book, name):
            self.cut_line(name, other)

    def wake(self, name):
        """A site that is down wakes."""
        del self.down[name]
        self.sites[name] = Site.woken(self.book, name, self.sites[name].ledger.disk, self.clock_of(name))
        for other in neighbours(self.book, name):
            self.tries.begin((name, other), self.now)

    def break_line(self, site, other):
        """A line breaks, which cuts its talks."""
        self.broken[line_of(site, other)] = True
        self.cut_line(site, other)

    def cut_line(self, site, other):
        """Cuts the talks over a line."""
        self.cut_talk((site, other))
        self.cut_talk((other, site))

    def cut_talk(self, direction):
        """Cuts the talk in a direction, if there is one."""
        talk = self.talks.pop(direction, None)
        if talk is not None:
            for key in talk.giving.open_items():
                add_one(self.cut_off, direction + (key,))

    def has_work(self, direction):
        """Whether the giver of a direction is up and has something to hand on."""
        giver, taker = direction
        return giver not in self.down and self.sites[giver].has_work(taker)

    def can_talk(self, direction):
        """Whether the line of a direction is whole, and its taker is up."""
        return line_of(direction[0], direction[1]) not in self.broken and direction[1] not in self.down

    def begin_talk(self, direction):
        """Begins a talk in a direction, if it can."""
        if direction not in self.directions or not self.can_talk(direction) or not self.has_work(direction):
            return
        giver, taker = direction
        site = self.sites[giver]
        self.talks[direction] = Talk(giver, taker, site.items_for(taker), site.clears_for(taker))

    def say_word(self, direction):
        """The next word of the giver of a talk, None if there is none."""
        talk = self.talks.get(direction)
        if talk is None:
            return None
        word = talk.say()
        if talk.body is not None:
            add_one(self.begun, direction + (talk.body,))
        return word

    def taker_hears(self, direction):
        """The taker hears the first word on its way to it, which is told; None if there is none."""
        talk = self.talks.get(direction)
        if talk is None or not talk.ahead:
            return None
        giver, taker = direction
        site = self.sites[taker]
        word = talk.ahead.pop(0)
        answers, event = talk.taking.hear(word, site.known(), site.kept_from(giver), self.clock_of(taker), self.book[1])
        if event is not None:
            self.call(taker, event_call(giver, event))
        # If the site has fallen, the talk is cut, and nobody hears these.
        talk.back.extend(answers)
        return word

    def giver_hears(self, direction):
        """The giver hears the first word on its way to it, which is told; None if there is none."""
        talk = self.talks.get(direction)
        if talk is None or not talk.back:
            return None
        giver, taker = direction
        word = talk.back.pop(0)
        settled = talk.giving.hear(word)
        if settled is not None:
            self.call(giver, ("settle", taker) + settled + (talk.begun_hops(settled[0]),))
        if talk.giving.done:
            del self.talks[direction]
        return word

    def hold_talk(self, direction):
        """Whether a talk that is begun anew comes to its end, held as far as that; None if none can begin."""
        self.cut_talk(direction)
        self.begin_talk(direction)
        talk = self.talks.get(direction)
        if talk is None:
            return None
        while direction in self.talks:
            self.pass_words(direction)
        return talk.giving.done

    def hold_round(self):
        """Holds a talk in each direction in which one can begin; whether there was one."""
        begun = False
        for direction in self.directions:
            if self.hold_talk(direction) is not None:
                begun = True
        return begun

    def pass_words(self, direction):
        """The giver says what it has to say, the taker hears it, and the giver hears the answers."""
        word = self.say_word(direction)
        while word is not None:
            word = self.say_word(direction)
        word = self.taker_hears(direction)
        while word is not None:
            word = self.taker_hears(direction)
        word = self.giver_hears(direction)
        while word is not None:
            word = self.giver_hears(direction)

    def tick(self):
        """The time grows, the sites do their ticks, and directions are tried."""
        self.now += 1
        for name in self.offsets:
            if name not in self.down:
                self.call(name, ("tick",))
        for direction in self.directions:
            if self.tries.is_due(direction, self.now) and self.has_work(direction):
                self.attempt(direction)

    def attempt(self, direction):
        """Tries a direction whose giver has something to hand on."""
        held = self.hold_talk(direction) if self.can_talk(direction) else None
        if held:
            self.tries.begin(direction, self.now + 1)
        else:
            self.tries.put_off(direction, self.now)
