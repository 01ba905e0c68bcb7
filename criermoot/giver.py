"""The side of a talk that hands things on."""

from criermoot.errors import BadWord
from criermoot.phrases import read_word, stuffed, write_word

# What has become of an item: it is wanted up to the end of its body, and ended until that is answered.
NEW = "new"
OFFERED = "offered"
WANTED = "wanted"
ENDED = "ended"
SETTLED = "settled"

# What has become of something that is said once, and answered once.
UNSAID = 0
SAID = 1
ANSWERED = 2

OFFER_RESULTS = ("have", "old")
BODY_RESULTS = ("took", "have", "old", "spoilt")


class Giver:
    """The giver of one talk."""

    def __init__(self, giver, taker, items, clears=(), window=4):
        self._names = (giver, taker)
        self._items = items
        self._clears = clears
        self._window = window
        self._begin = UNSAID
        self._close = UNSAID
        self._fates = [NEW] * len(items)
        # The numbers of the items that are wanted and not begun, in the order in which they were wanted.
        self._wants = []
        # The number of the item amid whose body the giver is, and that of the next row; None outside of bodies.
        self._body = None
        self._cleared = [UNSAID] * len(clears)

    @property
    def done(self):
        """Whether the last answer has been heard."""
        return self._close == ANSWERED

    @property
    def state(self):
        """All that was said and heard."""
        return (self._begin, self._close, tuple(self._fates), tuple(self._wants), self._body, tuple(self._cleared))

    def resume(self, state):
        """Puts a state of a giver with the same arguments in place."""
        self._begin, self._close, fates, wants, self._body, cleared = state
        self._fates = list(fates)
        self._wants = list(wants)
        self._cleared = list(cleared)

    def open_numbers(self):
        """The numbers of the open items; they are offered in the order of the items."""
        return [number for number, fate in enumerate(self._fates) if fate not in (NEW, SETTLED)]

    def open_items(self):
        """The keys of the open items, in the order of their offers."""
        return tuple([self._items[number][1] for number in self.open_numbers()])

    def is_amid_body(self):
        """Whether a body has begun whose end was not said."""
        return self._body is not None

    def next_word(self):
        """The next word, which is said by this, None if there is none."""
        if self._begin == UNSAID:
            self._begin = SAID
            return write_word(("open",) + self._names)
        if self._begin == SAID:
            return None
        if self.is_amid_body():
            return self.say_row()
        if self._wants:
            return self.say_body()
        return self.say_new()

    def say_row(self):
        """The next row of the body that has begun, or its end."""
        number, place = self._body
        rows = self._items[number][-1]
        if place < len(rows):
            self._body = (number, place + 1)
            return stuffed(rows[place])
        self._body = None
        self._fates[number] = ENDED
        return "."

    def say_body(self):
        """Begins the body of the item that was wanted first."""
        number = self._wants.pop(0)
        self._body = (number, 0)
        return write_word(("body", self._items[number][1]))

    def say_new(self):
        """An offer, a clear or the last word, None if none of them can be said."""
        many = len(self.open_numbers())
        if NEW in self._fates and many < self._window:
            return self.say_offer(self._fates.index(NEW))
        if UNSAID in self._cleared:
            number = self._cleared.index(UNSAID)
            self._cleared[number] = SAID
            return write_word(("clear", self._clears[number]))
        # Without an open item none is left to be offered, since a window is never shut then.
        if many == 0 and SAID not in self._cleared and self._close == UNSAID:
            self._close = SAID
            return "close"
        return None

    def say_offer(self, number):
        """Offers or brings the item with this number."""
        item = self._items[number]
        self._fates[number] = OFFERED
        if item[0] == "notice":
            return write_word(("offer", item[1], item[2], item[3]))
        return write_word(("bring", item[1]))

    def hear(self, word):
        """What an answer settles, None if it settles nothing; raises BadWord."""
        parts = read_word(word)
        if len(parts) == 1:
            return self.hear_lone(word)
        if parts[0] == "cleared":
            return self.hear_cleared(word, parts[1])
        return self.hear_item(word, parts)

    def hear_lone(self, word):
        """Hears an answer that names nothing."""
        if word == "ready" and self._begin == SAID:
            self._begin = ANSWERED
        elif word == "closed" and self._close == SAID:
            self._close = ANSWERED
        else:
            raise BadWord(word)

    def hear_cleared(self, word, key):
        """Hears that a key is cleared."""
        if key not in self._clears or self._cleared[self._clears.index(key)] != SAID:
            raise BadWord(word)
        self._cleared[self._clears.index(key)] = ANSWERED
        return (key, "cleared")

    def hear_item(self, word, parts):
        """Hears an answer to an offer or to a body."""
        numbers = [number for number in self.open_numbers() if self._items[number][1] == parts[1]]
        fate = self._fates[numbers[0]] if numbers else NEW
        if fate == OFFERED and parts[0] == "want":
            self._fates[numbers[0]] = WANTED
            self._wants.append(numbers[0])
            return None
        if (fate == OFFERED and parts[0] in OFFER_RESULTS) or (fate == ENDED and parts[0] in BODY_RESULTS):
            self._fates[numbers[0]] = SETTLED
            return (parts[1], parts[0])
        raise BadWord(word)
