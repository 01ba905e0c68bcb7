"""The side of a talk to which things are handed on."""

from criermoot.errors import BadText, BadWord
from criermoot.names import id_of
from criermoot.notices import read_notice
from criermoot.phrases import read_word, unstuffed

# What has become of the talk.
NEW = 0
BEGUN = 1
CLOSED = 2


def judged(id, hops, date, known, clock, window):
    """What becomes of an offered notice, and the event if it is known with more hops."""
    if id in known and known[id] <= hops:
        return ("have", None)
    if id in known:
        return ("have", ("near", id, hops))
    return ("old", None) if date < clock - window else ("want", None)


def notice_of(rows):
    """The notice of these rows, None if they are those of none."""
    try:
        return read_notice(rows)
    except BadText:
        return None


class Taker:
    """The taker of one talk."""

    def __init__(self, giver, taker):
        self._names = (giver, taker)
        self._stage = NEW
        # For each key that is wanted, up to the end of its body, the hops and the date; None for a letter.
        self._wanted = {}
        # The key of the body that has begun, None outside of bodies; and its rows.
        self._key = None
        self._rows = []

    @property
    def done(self):
        """Whether the last word has been heard."""
        return self._stage == CLOSED

    @property
    def state(self):
        """All that was said and heard."""
        return (self._stage, tuple(self._wanted.items()), self._key, tuple(self._rows))

    def resume(self, state):
        """Puts a state of a taker with the same arguments in place."""
        self._stage, wanted, self._key, rows = state
        self._wanted = {key: told for key, told in wanted}
        self._rows = list(rows)

    def hear(self, word, known, kept, clock, window):
        """The pair of the words that answer a word, and of the event, or None; raises BadWord."""
        if self._key is not None:
            return self.hear_row(word, known, kept, clock, window)
        parts = read_word(word)
        if self._stage == CLOSED or (self._stage == NEW) != (parts[0] == "open"):
            raise BadWord(word)
        if parts[0] == "offer":
            return self.hear_offer(word, parts, known, clock, window)
        if parts[0] == "bring":
            return self.hear_bring(word, parts[1], kept)
        return self.hear_other(word, parts, kept)

    def hear_other(self, word, parts, kept):
        """Hears a word that needs no knowledge of notices."""
        if parts == ("open",) + self._names:
            self._stage = BEGUN
            return (("ready",), None)
        if parts[0] == "body" and parts[1] in self._wanted:
            self._key = parts[1]
            return ((), None)
        if parts[0] == "clear":
            return ((f"cleared {parts[1]}",), ("clear", parts[1]) if parts[1] in kept else None)
        if parts[0] == "close":
            self._stage = CLOSED
            return (("closed",), None)
        raise BadWord(word)

    def hear_offer(self, word, parts, known, clock, window):
        """Hears that a notice is offered."""
        key, hops, date = parts[1:]
        id = id_of(key)
        if id is None or key in self._wanted:
            raise BadWord(word)
        answer, event = judged(id, hops, date, known, clock, window)
        if answer == "want":
            self._wanted[key] = (hops, date)
        return ((f"{answer} {key}",), event)

    def hear_bring(self, word, key, kept):
        """Hears that a letter is offered."""
        if key in self._wanted:
            raise BadWord(word)
        if key in kept:
            return ((f"have {key}",), None)
        self._wanted[key] = None
        return ((f"want {key}",), None)

    def hear_row(self, word, known, kept, clock, window):
        """Hears a row of a body, or its end."""
        if word != ".":
            self._rows.append(unstuffed(word))
            return ((), None)
        key = self._key
        rows = tuple(self._rows)
        told = self._wanted.pop(key)
        self._key = None
        self._rows = []
        if told is None:
            answer, event = ("have", None) if key in kept else ("took", ("keep", key, rows))
        else:
            answer, event = taken(id_of(key), told, rows, known, clock, window)
        return ((f"{answer} {key}",), event)


def taken(id, told, rows, known, clock, window):
    """What becomes of the body of a notice that was offered with these hops and this date, and the event."""
    hops, date = told
    notice = notice_of(rows)
    if notice is None or notice[1] != id or notice[3] != date:
        return ("spoilt", None)
    answer, event = judged(id, hops, date, known, clock, window)
    return (answer, event) if answer != "want" else ("took", ("take", hops, notice))
