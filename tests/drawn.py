"""Books, notices and acts made by chance."""

import itertools

from criermoot.books import wrong_part

NAMES = ("hill", "mill", "quay", "dell", "ford")
BOARDS = ("a", "b", "a.b", "town.fish", "town.sale")
PATTERNS = ("*",) * 8 + ("a*", "*,!b", "town.*", "*.*", "*,!town.sale", "b,a")
PERSONS = ("ann", "bob")
BODIES = (
    ("text", "plain", ("Come soon.", ".")), ("text", "quoted", ("a = b ",)), ("data", "runs", (5, 5, 7)),
    ("parts", (("text", "plain", ()), ("data", "pairs", (1, 2)))), ("text", "plain", ("x",) * 12), ("text", "plain", ()),
)
VERDICTS = (("pass",), ("pass",), ("hold",), ("refuse", "fish"))


def draw_lines(chance, names, share=0.7):
    return tuple(pair for pair in itertools.combinations(sorted(names), 2) if chance.random() < share)


def draw_feeds(chance, lines, share=0.8):
    found = [("feed", giver, taker, chance.choice(PATTERNS), chance.choice((1, 2, 3, 9, 9)), chance.choice((3, 9, 99, 99)))
             for line in lines for giver, taker in (line, line[::-1]) if chance.random() < share]
    chance.shuffle(found)
    return tuple(found[:24])


def draw_verdict(chance, addresses, verdicts=VERDICTS):
    return chance.choice(verdicts + tuple(("send", address) for address in addresses))


def draw_stewards(chance, names, most, verdicts):
    many = chance.randrange(most + 1)
    addresses = chance.sample([f"{person}@{name}" for person in ("st", "su") for name in names], min(many, 2 * len(names)))
    tests = (("any",), ("any",), ("any",), ("answer",), ("board", "town.*"), ("word", "fresh"), ("from", "ann", "*"), ("over", 3))
    tests = tests + tuple(("sealed", address) for address in addresses)
    tried = tuple(addresses) + ("no@" + names[0],)
    return tuple(
        ("steward", chance.choice(("town.*", "a*", "b", "*.sale", "*", "*")), address,
         tuple((chance.choice(tests), draw_verdict(chance, tried, verdicts)) for _ in range(chance.randrange(3))))
        for address in addresses)


def draw_lists(chance, names, most):
    found, boards = [], {}
    for number in range(chance.randrange(most + 1)):
        site = chance.choice(names)
        board = chance.choice(BOARDS + (None,))
        if board is not None and (site, board) in boards:
            board = None
        boards[(site, board)] = True
        found.append((f"l{number}@{site}", board))
    members = [address for address, _ in found] + [f"{person}@{name}" for person in PERSONS for name in names]
    return tuple(("list", address, board, tuple(chance.sample(members, chance.randrange(min(len(members), 5)))))
                 for address, board in found)


def draw_book(chance, most=5, stewards=3, lists=3, window=None, offsets=4, memory=None, term=None, verdicts=VERDICTS):
    """A right book; window, memory and term are drawn if they are not passed."""
    names = chance.sample(NAMES, chance.randrange(1, most + 1))
    window = window or chance.choice((2, 6, 12, 60))
    sites = tuple(
        ("site", name, chance.randrange(min(offsets, window) + 1), chance.randrange(80) if memory is None else memory,
         chance.choice((0, 3, 9, 90)) if term is None else term, chance.choice(PATTERNS)) for name in names)
    lines = draw_lines(chance, names)
    first = chance.choice((1, 2))
    book = ("book", window, (first, chance.choice((first, 4))), sites, lines, draw_feeds(chance, lines),
            draw_stewards(chance, names, stewards, verdicts), draw_lists(chance, names, lists))
    assert wrong_part(book) is None
    return book


def with_memories(book, memory_of):
    """The book with the memory that a function tells for the name of each site."""
    sites = tuple(entry[:3] + (memory_of(entry[1]),) + entry[4:] for entry in book[3])
    return book[:3] + (sites,) + book[4:]


def draw_kind(chance, world, book):
    posts = world.posted()
    if posts and chance.random() < 0.5:
        return (chance.choice(("strike", "replace")), chance.choice(posts)[1][1])
    return ("post",)


def draw_post(chance, world, book):
    site = chance.choice(book[3])[1]
    persons = PERSONS + tuple(entry[2].split("@")[0] for entry in book[6] if entry[2].split("@")[1] == site)
    kind = draw_kind(chance, world, book)
    person = chance.choice(persons)
    if kind[0] != "post" and chance.random() < 0.5:
        # Whoever wrote what is named has the right to hide it.
        author = [notice[2] for _, notice in world.posted() if notice[1] == kind[1]][0]
        person, site = author.split("@")
    refs = tuple(sorted({notice[1] for _, notice in world.posted() if chance.random() < 0.1}))[:6]
    boards = tuple(chance.sample(BOARDS, chance.choice((1, 1, 2, 3))))
    subject = chance.choice(("Fresh today", "fish", ""))
    # The next id cannot be told from outside, but no id of the site that is not posted is ever among the refs.
    return ("post", f"{person}@{site}", boards, subject, refs, kind, chance.choice(BODIES))


def draw_hand(chance, world, book):
    held = [(entry[2], id) for entry in book[6] for id in world.held(entry[2])]
    if not held or chance.random() < 0.1:
        return ("verdict", f"ann@{book[3][0][1]}", (book[3][0][1], 1), ("pass",))
    address, id = chance.choice(held)
    return ("verdict", address, id, draw_verdict(chance, [entry[2] for entry in book[6]]))


def draw_act(chance, world, book, words="post verdict say hear talk cut break mend fall trip wake renew tick round"):
    """An act of one of the words."""
    word = chance.choice(words.split())
    site = chance.choice(book[3])[1]
    if word == "post":
        return draw_post(chance, world, book)
    if word == "verdict":
        return draw_hand(chance, world, book)
    if word in ("say", "hear", "talk", "cut", "break", "mend"):
        pair = chance.choice(book[4]) if book[4] and chance.random() < 0.97 else (site, chance.choice(book[3])[1])
        pair = pair[::chance.choice((1, -1))]
        return (word,) + pair + ((chance.choice(("taker", "giver")),) if word == "hear" else ())
    if word == "trip":
        return ("trip", site, chance.randrange(14), chance.randrange(2))
    if word in ("tick", "round"):
        return (word,)
    return (word, site)


WEIGHED = "post post post verdict " + "say hear hear " * 8 + "talk talk cut break mend mend fall trip wake wake renew tick round"


def mended(world, book):
    """The acts by which all lines are whole, all sites up, and no trip is set."""
    found = [("mend",) + line for line in book[4]]
    for entry in book[3]:
        # A fall takes a trip away.
        found += [("fall", entry[1]), ("wake", entry[1])]
    return tuple(found)
