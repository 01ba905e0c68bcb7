"""Deeds of a single site made by chance, each a word and the arguments of the method of this name."""

from criermoot.books import neighbours
from tests import drawn, plainsites

BOARDS = drawn.BOARDS


def draw_pool(chance, book, many=12, others=(), first=100):
    """Notices from all sites, some of which name others to hide them."""
    found = list(others)
    for number in range(first, first + many):
        site = chance.choice(book[3])[1]
        author = f"{chance.choice(drawn.PERSONS)}@{site}"
        kind = ("post",)
        if found and chance.random() < 0.5:
            other = chance.choice(found)
            kind = (chance.choice(("strike", "replace")), other[1])
            if chance.random() < 0.8:
                author, site = other[2], other[2].split("@")[1]
        boards = tuple(chance.sample(BOARDS, chance.choice((1, 2))))
        found.append(("notice", (site, number), author, chance.randrange(16), boards, "Fresh", (), kind, (),
                      chance.choice(drawn.BODIES)))
    return found[len(others):]


def draw_letters(chance, book, name, pool):
    """Letters that can come to a site; what is submitted does not come in other ways."""
    found = []
    addresses = [entry[1] for entry in book[7]] + [f"{person}@{entry[1]}" for person in drawn.PERSONS for entry in book[3]]
    for notice in pool:
        for address in chance.sample(addresses, 2):
            found.append(plainsites.copy(notice, "list@far", address))
        found.append(plainsites.note(notice, chance.choice((("out",), ("refused", "fish")))))
    for notice in draw_pool(chance, book, 8, pool, 200):
        for address in plainsites.missing(book, notice)[:1]:
            goal = chance.choice([entry[2] for entry in book[6]])
            found.append(plainsites.submit(notice, goal, address, () if goal == address else (address,)))
    chance.shuffle(found)
    return found


class Drawer:
    """Draws deeds for a site, of which it is told what it knows."""

    def __init__(self, chance, book, name):
        self.chance, self.book, self.name = chance, book, name
        self.pool = draw_pool(chance, book)
        self.letters = draw_letters(chance, book, name, self.pool)
        self.neighbours = neighbours(book, name)
        self.clock = chance.randrange(4)

    def addresses(self):
        persons = [f"{person}@{self.name}" for person in drawn.PERSONS]
        return persons + [entry[2] for entry in self.book[6]] + [entry[1] for entry in self.book[7]]

    def draw(self, site):
        """A deed that the site can do."""
        while True:
            deed = self.tried(site, self.chance.choice(("post", "take", "take", "near", "keep", "keep", "cleared", "settle",
                                                        "settle", "settle", "decide", "tick")))
            if deed is not None:
                return deed

    def tried(self, site, word):
        chance, clock = self.chance, self.clock
        if word == "tick":
            self.clock += chance.choice((1, 1, 2, 5))
            return ("tick", self.clock)
        if word == "post":
            named = chance.choice(self.pool)[1]
            kind = chance.choice((("post",), ("strike", named), ("replace", named)))
            persons = drawn.PERSONS + tuple(entry[2].split("@")[0] for entry in self.book[6])
            return ("post", clock, chance.choice(persons), tuple(chance.sample(BOARDS, chance.choice((1, 2)))), "Fresh",
                    (), kind, chance.choice(drawn.BODIES))
        if word == "take":
            left = [notice for notice in self.pool if site.notice(notice[1]) is None]
            return ("take", clock, chance.randrange(1, 5), chance.choice(left)) if left else None
        if word == "near":
            known = sorted(site.known())
            return ("near", clock, chance.choice(known), chance.randrange(4)) if known else None
        if word == "decide":
            held = [(address, id) for address in self.addresses() for id in site.held(address)]
            address, id = chance.choice(held + [(f"ann@{self.name}", ("hill", 1))])
            return ("decide", clock, address, id, drawn.draw_verdict(chance, [entry[2] for entry in self.book[6]]))
        return self.tried_with(site, word, chance.choice(self.neighbours)) if self.neighbours else None

    def tried_with(self, site, word, other):
        chance, clock = self.chance, self.clock
        if word == "keep":
            if not self.letters:
                return None
            letter = self.letters.pop()
            return ("keep", clock, other, letter[1], letter)
        if word == "cleared":
            kept = site.kept_from(other)
            return ("cleared", other, chance.choice(kept)) if kept else None
        items = [(item[1], item[2] - 1 if item[0] == "notice" else 0) for item in site.items_for(other)]
        clears = site.clears_for(other)
        if clears and chance.random() < 0.5:
            return ("settle", clock, other, chance.choice(clears), "cleared", 0)
        if not items:
            return None
        key, hops = chance.choice(items)
        result = chance.choice(("took", "have", "spoilt") if ":" in key else ("took", "have", "old", "spoilt"))
        return ("settle", clock, other, key, result, hops + chance.choice((0, 0, 1)) if ":" not in key else 0)
