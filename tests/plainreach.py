"""Ways, reach and cuts as the document defines them, without any haste; and books made by chance."""

import itertools

from tests import plainpatterns

BOARDS = ("a", "b", "a.b", "town.fish", "c1")
PATTERNS = ("*", "*", "a*", "*.*", "*,!b", "b,c1", "town.*", "!*", "*,!a*", "?")
NAMES = ("hill", "mill", "quay", "dell", "ford", "ash")


def one_let(pattern, boards):
    return any(plainpatterns.lets(pattern, board) for board in boards)


def carries(book, name, boards):
    return any(entry[1] == name and one_let(entry[5], boards) for entry in book[3])


def walks(book, kind, passes):
    """All ways from the origin whose sites carry the kind, and whose feeds pass it at their hops."""
    names = [entry[1] for entry in book[3] if carries(book, entry[1], kind[2])]
    feeds = [entry for entry in book[5] if entry[1] in names and entry[2] in names]
    level = [(name,) for name in names if name == kind[1]]
    found = []
    while level:
        found.extend(level)
        level = [way + (entry[2],) for way in level for entry in feeds
                 if entry[1] == way[-1] and entry[2] not in way and passes(entry, len(way) - 1)]
    return found


def ways(book, kind):
    """All ways that hold for the kind."""
    return walks(book, kind, lambda entry, hops: one_let(entry[3], kind[2]) and kind[3] <= entry[5] and hops < entry[4])


def open_ways(book, kind):
    return walks(book, kind, lambda entry, hops: one_let(entry[3], kind[2]) and kind[3] <= entry[5])


def least_ways(book, kind):
    found = {}
    for way in sorted(ways(book, kind), key=lambda way: (len(way), way)):
        found.setdefault(way[-1], way)
    return found


def reach(book, kind):
    return tuple(sorted((name, len(way) - 1) for name, way in least_ways(book, kind).items()))


def hops(book, kind):
    told = dict(reach(book, kind))
    return tuple(told.get(entry[1]) for entry in book[3])


def least_cut(book, kind, site):
    """How many feeds at least lead out of a set of sites with the origin and without the site."""
    names = [entry[1] for entry in book[3]]
    pairs = {pair for way in open_ways(book, kind) for pair in zip(way, way[1:])}
    bounds = []
    for many in range(len(names)):
        for chosen in itertools.combinations([name for name in names if name not in (kind[1], site)], many):
            inner = set(chosen) | {kind[1]}
            bounds.append(sum(giver in inner and taker not in inner for giver, taker in pairs))
    return min(bounds)


def random_book(chance, most=6, sizes=(1, 3, 9), patterns=PATTERNS):
    """A book with sites, lines and feeds made by chance."""
    names = chance.sample(NAMES, chance.randrange(2, most + 1))
    sites = tuple(("site", name, 0, 60, 90, chance.choice(("*",) * 6 + patterns)) for name in names)
    pairs = [pair for pair in itertools.combinations(sorted(names), 2) if chance.random() < 0.8][:16]
    feeds = [("feed", giver, taker, chance.choice(patterns), chance.choice((1, 2, 3, 9)), chance.choice(sizes))
             for pair in pairs for giver, taker in (pair, pair[::-1]) if chance.random() < 0.8]
    chance.shuffle(feeds)
    return ("book", 50, (1, 8), sites, tuple(sorted(pairs)), tuple(feeds[:24]), (), ())


def random_kind(chance, book, most=12):
    boards = tuple(chance.sample(BOARDS, chance.randrange(1, 4)))
    return ("kind", chance.choice(book[3])[1], boards, chance.randrange(1, most))


def net(*feeds, **patterns):
    """A book with the sites of these feeds, in the order of their names, each given as `a>b` or with further parts.

    A feed is a string, or a tuple of it, a pattern, hops and a size; patterns tell what sites carry.
    """
    told = []
    for one in feeds:
        one = (one,) if isinstance(one, str) else one
        giver, _, taker = one[0].partition(">")
        told.append(("feed", giver, taker) + (one[1:] + ("*", 9, 99)[len(one) - 1:]))
    names = sorted({name for entry in told for name in entry[1:3]} | set(patterns))
    sites = tuple(("site", name, 0, 60, 90, patterns.get(name, "*")) for name in names)
    lines = tuple(sorted({tuple(sorted(entry[1:3])) for entry in told}))
    return ("book", 50, (1, 8), sites, lines, tuple(told), (), ())


def kind(origin, *boards, size=1):
    return ("kind", origin, boards or ("a",), size)
