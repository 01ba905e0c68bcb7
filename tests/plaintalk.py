"""The two sides of a talk as the document tells them, worked out anew from all that was said and heard."""

from criermoot.errors import BadText
from criermoot.names import id_of
from criermoot.notices import read_notice


class PlainGiver:
    """A giver that keeps nothing but a log of ("say", word) and ("hear", word)."""

    def __init__(self, giver, taker, items, clears=(), window=4):
        self.opening = f"open {giver} {taker}"
        self.items = {item[1]: item for item in items}
        self.clears = clears
        self.window = window
        self.log = []

    def said(self):
        """The said words outside of bodies, and each end of a body as ("end", key); whether a body is open."""
        found, key = [], None
        for side, word in self.log:
            if side == "hear":
                found.append((side, tuple(word.split(" "))))
            elif key is None:
                parts = tuple(word.split(" "))
                found.append((side, parts[:2]))
                key = parts[1] if parts[0] == "body" else None
            elif word == ".":
                found.append((side, ("end", key)))
                key = None
        return found, key

    def fates(self):
        """For each key the last thing that was said or heard of it."""
        found = {}
        for _, parts in self.said()[0]:
            if parts[-1] in self.items:
                found[parts[-1]] = parts[0]
        return found

    def open_items(self):
        fates = self.fates()
        return tuple(key for key in self.items if fates.get(key) in ("offer", "bring", "want", "body", "end"))

    def next_word(self):
        word = self.plain_next()
        if word is not None:
            self.log.append(("say", word))
        return word

    def plain_next(self):
        told, body = self.said()
        if not self.log:
            return self.opening
        if ("hear", ("ready",)) not in told:
            return None
        if body is not None:
            begin = max(at for at, one in enumerate(self.log) if one == ("say", f"body {body}"))
            rows = [word for side, word in self.log[begin + 1:] if side == "say"]
            item = self.items[body]
            if len(rows) == len(item[-1]):
                return "."
            row = item[-1][len(rows)]
            return "." + row if row[:1] == "." else row
        for side, parts in told:
            if parts[0] == "want" and ("say", ("body", parts[1])) not in told:
                return f"body {parts[1]}"
        fates = self.fates()
        new = [item for key, item in self.items.items() if key not in fates]
        if new and len(self.open_items()) < self.window:
            item = new[0]
            return f"offer {item[1]} {item[2]} {item[3]}" if item[0] == "notice" else f"bring {item[1]}"
        for key in self.clears:
            if ("say", ("clear", key)) not in told:
                return f"clear {key}"
        answered = all(("hear", ("cleared", key)) in told for key in self.clears)
        if not self.open_items() and answered and ("say", ("close",)) not in told:
            return "close"
        return None

    def due(self):
        """The answers that are due, with what they settle."""
        told, _ = self.said()
        found = {}
        if told and ("hear", ("ready",)) not in told:
            found["ready"] = None
        if ("say", ("close",)) in told and ("hear", ("closed",)) not in told:
            found["closed"] = None
        for key in self.clears:
            if ("say", ("clear", key)) in told and ("hear", ("cleared", key)) not in told:
                found[f"cleared {key}"] = (key, "cleared")
        for key, fate in self.fates().items():
            if fate in ("offer", "bring"):
                found.update({f"want {key}": None, f"have {key}": (key, "have"), f"old {key}": (key, "old")})
            if fate == "end":
                found.update({f"{word} {key}": (key, word) for word in ("took", "have", "old", "spoilt")})
        return found

    def hear(self, word):
        self.log.append(("hear", word))


def offered(id, hops, date, known, clock, window):
    """The answer to an offer, and the event."""
    if id in known:
        return ("have", None) if known[id] <= hops else ("have", ("near", id, hops))
    return ("old", None) if date < clock - window else ("want", None)


class PlainTaker:
    """A taker that keeps nothing but a log of the words it heard, with its answers."""

    def __init__(self, giver, taker):
        self.opening = f"open {giver} {taker}"
        self.log = []

    def wanted(self):
        """The offers that were wanted and whose bodies have not ended; the key and the rows of an open body."""
        found, key, rows = {}, None, []
        for word, answers in self.log:
            parts = word.split(" ")
            if key is not None and word == ".":
                del found[key]
                key, rows = None, []
            elif key is not None:
                rows.append(word[1:] if word[:1] == "." else word)
            elif parts[0] == "body":
                key = parts[1]
            elif answers and answers[0].split(" ")[0] == "want":
                found[parts[1]] = parts
        return found, key, tuple(rows)

    def hear(self, word, known, kept, clock, window):
        """The words and the event, None for a word that cannot be heard now."""
        told = self.plain_hear(word, known, kept, clock, window)
        if told is not None:
            self.log.append((word, told[0]))
        return told

    def plain_hear(self, word, known, kept, clock, window):
        wanted, key, rows = self.wanted()
        if key is not None:
            if word != ".":
                return ((), None)
            return self.ended(wanted[key], rows, known, kept, clock, window)
        parts = word.split(" ")
        if not self.log:
            return (("ready",), None) if word == self.opening else None
        if self.log[-1][1] == ("closed",):
            return None
        if word == "close":
            return (("closed",), None)
        if len(parts) == 4 and parts[0] == "offer" and id_of(parts[1]) and parts[1] not in wanted:
            answer, event = offered(id_of(parts[1]), int(parts[2]), int(parts[3]), known, clock, window)
            return ((f"{answer} {parts[1]}",), event)
        if len(parts) != 2:
            return None
        if parts[0] == "bring" and parts[1] not in wanted:
            return (("have " if parts[1] in kept else "want ") + parts[1],), None
        if parts[0] == "body" and parts[1] in wanted:
            return ((), None)
        if parts[0] == "clear":
            return ((f"cleared {parts[1]}",), ("clear", parts[1]) if parts[1] in kept else None)
        return None

    def ended(self, parts, rows, known, kept, clock, window):
        """What is answered at the end of the body of this offer."""
        key = parts[1]
        if parts[0] == "bring":
            return ((f"have {key}",), None) if key in kept else ((f"took {key}",), ("keep", key, rows))
        try:
            notice = read_notice(rows)
        except BadText:
            notice = None
        if notice is None or notice[1] != id_of(key) or notice[3] != int(parts[3]):
            return ((f"spoilt {key}",), None)
        answer, event = offered(id_of(key), int(parts[2]), int(parts[3]), known, clock, window)
        if answer == "want":
            answer, event = "took", ("take", int(parts[2]), notice)
        return ((f"{answer} {key}",), event)
