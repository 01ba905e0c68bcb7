"""What sites have and show, and what letters come to, as the document tells it, without any haste."""

import itertools

from criermoot.judging import verdict
from criermoot.notices import size_of, write_notice
from tests import plainpatterns, plainreach, plainvalues


def text_of(id):
    return f"{id[1]}@{id[0]}"


def place_of(address):
    return address.split("@")[1]


def entry_of(book, name):
    return [entry for entry in book[3] if entry[1] == name][0]


def steward_of(book, board):
    return next((entry[2] for entry in book[6] if plainpatterns.lets(entry[1], board)), None)


def has_right(book, one, other):
    """Whether the first notice has the right to hide the other one."""
    if one[7] not in (("strike", other[1]), ("replace", other[1])) or other[7][0] == "strike":
        return False
    return one[2] == other[2] or one[7][0] == "strike" and any(steward_of(book, board) == one[2] for board in other[4])


def shown(book, site, notices, clock, board):
    entry = entry_of(book, site)
    found = []
    for notice in notices:
        if plainpatterns.lets(entry[5], board) and board in notice[4] and notice[7][0] != "strike":
            if not any(has_right(book, one, notice) for one in notices) and notice[3] + entry[4] >= clock:
                found.append((notice[3], notice[1]))
    return tuple(id for _, id in sorted(found))


def distance(book, site, other):
    """The distance by the sites within 0, 1, 2 and more lines."""
    near = {site}
    for many in range(len(book[3])):
        if other in near:
            return many
        near |= {name for line in book[4] for name in line if near & set(line)}
    return None


def next_site(book, here, goal):
    if here == goal or distance(book, here, goal) is None:
        return None
    beside = [name for line in book[4] for name in line if here in line and name != here]
    return min(name for name in beside if distance(book, name, goal) == distance(book, here, goal) - 1)


def members(book, address):
    """The persons that are reached from a list."""
    lists = {entry[1]: entry for entry in book[7]}
    met = {address}
    while True:
        more = {member for one in met if one in lists for member in lists[one][3]
                if distance(book, place_of(one), place_of(member)) is not None}
        if more <= met:
            return {member for member in met if member not in lists}
        met |= more


def taken(book, posts, site):
    """The posted notices by which a site is reached, with their hops."""
    found = {}
    for origin, notice in posts:
        told = dict(plainreach.reach(book, ("kind", origin, notice[4], size_of(notice))))
        if site in told:
            found[notice[1]] = (told[site], notice)
    return found


def box(book, posts, address):
    """The ids in a box of the plain world."""
    found = set()
    for entry in book[7]:
        site = place_of(entry[1])
        for id, (_, notice) in taken(book, posts, site).items():
            if notice[7][0] != "strike" and entry[2] in notice[4] and plainpatterns.lets(entry_of(book, site)[5], entry[2]):
                if address in members(book, entry[1]):
                    found.add(id)
    return tuple(sorted(found))


def missing(book, notice):
    if notice[7][0] == "strike":
        return []
    told = [steward_of(book, board) for board in notice[4]]
    return [address for at, address in enumerate(told)
            if address is not None and address not in told[:at] and address not in notice[8]]


def submit(notice, goal, needed, seen):
    return ("letter", f"s:{text_of(notice[1])}:{len(notice[8])}:{len(seen)}", goal, ("submit", notice, needed, seen))


def note(notice, told):
    return ("letter", "n:" + text_of(notice[1]), notice[2], ("note", notice[1], told))


def copy(notice, address, member):
    return ("letter", ":".join(("c", text_of(notice[1]), address, member)), member, ("copy", notice, address))


def decided(book, letter, clock, hand=None):
    _, _, goal, (_, notice, needed, seen) = letter
    policies = {entry[2]: entry[3] for entry in book[6]}
    told = verdict(policies[goal], notice) if hand is None else hand
    if notice[3] < clock - book[1]:
        return ("refused", "late")
    if told == ("pass",):
        notice = notice[:8] + (notice[8] + (needed,),) + notice[9:]
        left = missing(book, notice)
        return ("on", submit(notice, left[0], left[0], ())) if left else ("out", notice)
    if told == ("hold",):
        return told
    if told[0] == "refuse":
        return ("refused", told[1])
    if told[1] not in policies:
        return ("refused", "nobody")
    if told[1] in (goal,) + seen:
        return ("refused", "ring")
    return ("on", submit(notice, told[1], needed, seen + (goal,)))


def end(book, notice, hands):
    """The plain end of a notice."""
    hands = list(hands)
    here = place_of(notice[2])
    letter = submit(notice, missing(book, notice)[0], missing(book, notice)[0], ())
    for _ in range(3 * len(book[6])):
        goal = letter[2]
        if distance(book, here, place_of(goal)) is None:
            return ("refused", "nowhere")
        told = decided(book, letter, 0)
        while told == ("hold",):
            fitting = [hand for hand in hands if hand[0] == goal]
            if not fitting:
                return ("held", goal)
            hands.remove(fitting[0])
            told = decided(book, letter, 0, fitting[0][1])
        if told[0] != "on":
            return told + (place_of(goal),) if told[0] == "out" else told
        letter, here = told[1], place_of(goal)
    raise AssertionError("there are more decisions than the document tells")


class PlainSite:
    """A site that keeps a record of each notice that it took, and does not care for disks."""

    def __init__(self, book, name):
        self.book, self.name = book, name
        self.window, self.entry = book[1], entry_of(book, name)
        self.neighbours = sorted({other for line in book[4] for other in line if name in line and other != name})
        self.records = []
        self.events = []
        self.numbers = {}
        self.queues = {other: [] for other in self.neighbours}
        self.kept = {other: [] for other in self.neighbours}
        self.clears = {other: [] for other in self.neighbours}
        self.letters = {}
        self.holding = []
        self.boxes = []
        self.notes = []
        self.expanded = []
        self.last = 0

    def lets(self, board):
        return plainpatterns.lets(self.entry[5], board)

    def over(self, notice, clock):
        return notice[3] + self.entry[4] < clock

    def record(self, id):
        """The record of an id on the shelf, or None."""
        return next((one for one in self.records if one["notice"][1] == id and one["shelf"]), None)

    def is_gone(self, board, number):
        return ("gone", number) in [change for other, change in self.events if other == board]

    def go(self, one):
        for board, number in sorted(one["numbers"].items()):
            if not self.is_gone(board, number):
                self.events.append((board, ("gone", number)))

    def take(self, clock, hops, notice):
        self.handle(clock, self.taking(clock, hops, notice))

    def taking(self, clock, hops, notice):
        one = {"notice": notice, "hops": hops, "least": hops, "clock": clock, "known": True, "shelf": True,
               "hidden": False, "numbers": {}}
        others = [other for other in self.records if other["shelf"]]
        self.records.append(one)
        if notice[7][0] != "strike":
            for board in notice[4]:
                if self.lets(board):
                    self.numbers[board] = self.numbers.get(board, 0) + 1
                    one["numbers"][board] = self.numbers[board]
                    self.events.append((board, ("new", self.numbers[board], notice[1])))
        if any(other["known"] and has_right(self.book, other["notice"], notice) for other in others):
            one["hidden"] = True
        if one["hidden"] or self.over(notice, clock):
            self.go(one)
        for other in others:
            if has_right(self.book, notice, other["notice"]):
                other["hidden"] = True
                self.go(other)
        self.enqueue(one)
        return [] if notice[7][0] == "strike" else [
            letter for entry in self.book[7] if place_of(entry[1]) == self.name and entry[2] in notice[4] and self.lets(entry[2])
            for letter in self.expand(entry, notice)]

    def expand(self, entry, notice):
        if (entry[1], notice[1]) in self.expanded:
            return []
        self.expanded.append((entry[1], notice[1]))
        return [copy(notice, entry[1], member) for member in entry[3]
                if distance(self.book, self.name, place_of(member)) is not None]

    def enqueue(self, one):
        notice = one["notice"]
        for _, giver, taker, pattern, hops, size in sorted(self.book[5]):
            if giver == self.name and plainreach.one_let(pattern, notice[4]) and plainreach.carries(self.book, taker, notice[4]):
                if size_of(notice) <= size and one["hops"] < hops and text_of(notice[1]) not in self.queues[taker]:
                    self.queues[taker].append(text_of(notice[1]))

    def near(self, clock, id, hops):
        one = self.record(id)
        if one is not None and one["known"] and hops < one["hops"]:
            one["hops"] = one["least"] = hops
            self.enqueue(one)

    def post(self, clock, person, boards, subject, refs, kind, body):
        if not any(self.lets(board) for board in boards) or kind != ("post",) and self.record(kind[1]) is None:
            return None
        self.last += 1
        notice = ("notice", (self.name, self.last), f"{person}@{self.name}", clock, boards, subject, refs, kind, (), body)
        left = missing(self.book, notice)
        self.handle(clock, [submit(notice, left[0], left[0], ())] if left else self.taking(clock, 0, notice))
        return notice[1]

    def handle(self, clock, letters):
        for at in itertools.count():
            if at == len(letters):
                return
            letters += self.handled(clock, letters[at])

    def handled(self, clock, letter):
        _, key, goal, load = letter
        if place_of(goal) != self.name:
            step = next_site(self.book, self.name, place_of(goal))
            if step is None:
                return [note(load[1], ("refused", "nowhere"))] if load[0] == "submit" else []
            self.queues[step].append(key)
            self.letters[key] = letter
            return []
        if load[0] == "note":
            self.notes.append((goal, load[1:]))
            return []
        if load[0] == "submit":
            return self.fate(clock, letter, decided(self.book, letter, clock))
        entries = [entry for entry in self.book[7] if entry[1] == goal]
        if entries:
            return self.expand(entries[0], load[1])
        if (goal, load[1][1]) not in self.boxes:
            self.boxes.append((goal, load[1][1]))
        return []

    def fate(self, clock, letter, told):
        notice = letter[3][1]
        if told[0] == "hold":
            self.holding.append(letter)
            return []
        if told[0] == "on":
            return [told[1]]
        if told[0] == "refused":
            return [note(notice, told)]
        made = self.taking(clock, 0, told[1]) if any(self.lets(board) for board in notice[4]) else []
        return made + [note(notice, ("out",))]

    def keep(self, clock, neighbour, key, letter):
        self.kept[neighbour].append(key)
        self.handle(clock, [letter])

    def cleared(self, neighbour, key):
        self.kept[neighbour].remove(key)

    def settle(self, clock, neighbour, key, result, hops):
        if result == "cleared":
            self.clears[neighbour].remove(key)
        elif ":" in key and result in ("took", "have"):
            self.queues[neighbour].remove(key)
            self.clears[neighbour].append(key)
        elif ":" not in key:
            number, site = key.split("@")
            if result == "old" or result in ("took", "have") and self.record((site, int(number)))["hops"] >= hops:
                self.queues[neighbour].remove(key)

    def decide(self, clock, address, id, hand):
        for letter in self.holding:
            if letter[2] == address and letter[3][1][1] == id:
                told = decided(self.book, letter, clock, hand)
                if told != ("hold",):
                    self.holding.remove(letter)
                    self.handle(clock, self.fate(clock, letter, told))
                return True
        return False

    def tick(self, clock):
        over = [one for one in self.records if one["shelf"] and self.over(one["notice"], clock)]
        for board in self.numbers:
            for one in sorted(over, key=lambda one: one["numbers"].get(board, 0)):
                if board in one["numbers"] and not self.is_gone(board, one["numbers"][board]):
                    self.events.append((board, ("gone", one["numbers"][board])))
        for one in self.records:
            one["known"] = one["known"] and clock <= one["clock"] + self.entry[3]
            queued = any(text_of(one["notice"][1]) in queue for queue in self.queues.values())
            one["shelf"] = one["shelf"] and (one["known"] or queued or one not in over)

    def items_for(self, neighbour):
        found = []
        for key in self.queues[neighbour]:
            if ":" in key:
                text = plainvalues.text_of(self.letters[key])
                found.append(("letter", key, tuple(text[at:at + 40] for at in range(0, len(text), 40))))
            else:
                number, site = key.split("@")
                one = self.record((site, int(number)))
                found.append(("notice", key, one["hops"] + 1, one["notice"][3], write_notice(one["notice"])))
        return tuple(found)

    def shown(self, clock, board):
        told = [(one["notice"][3], one["notice"][1], one["numbers"][board]) for one in self.records
                if one["shelf"] and board in one["numbers"] and not one["hidden"] and not self.over(one["notice"], clock)]
        return tuple((number, id) for _, id, number in sorted(told))

    def since(self, board, stamp):
        changes = [change for other, change in self.events if other == board]
        if len(changes) - stamp <= 20:
            return ("since", len(changes), tuple(changes[stamp:]))
        gone = [change[1] for change in changes if change[0] == "gone"]
        left = [change[1:] for change in changes if change[0] == "new" and change[1] not in gone]
        return ("whole", len(changes), tuple(sorted(left)))

    def told(self, clock, boards, addresses):
        """All that the site tells of itself, with the names of what tells it."""
        found = {
            "known": {one["notice"][1]: one["hops"] for one in self.records if one["known"]},
            "taken": tuple(sorted((id, min(one["least"] for one in self.records if one["notice"][1] == id))
                                  for id in {one["notice"][1] for one in self.records})),
            "twice": tuple(sorted(id for id in {one["notice"][1] for one in self.records}
                                  if len([one for one in self.records if one["notice"][1] == id]) > 1)),
        }
        for other in self.neighbours:
            found["items", other] = self.items_for(other)
            found["clears", other] = tuple(self.clears[other])
            found["kept", other] = tuple(self.kept[other])
        for board in boards:
            found["shown", board] = self.shown(clock, board)
            found["since", board] = tuple(self.since(board, stamp) for stamp in range(self.since(board, 0)[1] + 1))
        for address in addresses:
            found["box", address] = tuple(id for goal, id in self.boxes if goal == address)
            found["told", address] = tuple(told for goal, told in self.notes if goal == address)
            found["held", address] = tuple(sorted(letter[3][1][1] for letter in self.holding if letter[2] == address))
        return found


def told_by(site, neighbours, clock, boards, addresses):
    """All that a site of the program tells of itself, in the same form."""
    found = {"known": site.known(), "taken": site.taken(), "twice": site.twice()}
    for other in neighbours:
        found["items", other] = site.items_for(other)
        found["clears", other] = site.clears_for(other)
        found["kept", other] = site.kept_from(other)
    for board in boards:
        found["shown", board] = site.shown(clock, board)
        found["since", board] = tuple(site.since(board, stamp) for stamp in range(site.since(board, 0)[1] + 1))
    for address in addresses:
        found["box", address] = site.box(address)
        found["told", address] = site.told(address)
        found["held", address] = site.held(address)
    return found
