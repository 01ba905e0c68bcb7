"""The feeds over which some boards come to sites that carry them, and the ways along these.

A link is a triple of the giver, the taker and the bound on hops of a feed that lets the boards,
whose size is enough and whose taker carries them.
"""

from criermoot.patterns import sight


def book_patterns(book):
    """The patterns of a book: those of its sites, then those of its feeds."""
    return tuple([entry[5] for entry in book[3]] + [entry[3] for entry in book[5]])


def book_sight(book, boards):
    """The sight of boards through the patterns of a book."""
    return sight(book_patterns(book), boards)


def carriers(book, seen):
    """The names of the sites that carry boards with this sight, in the order of the book."""
    return [entry[1] for entry, bit in zip(book[3], seen) if bit == 1]


def links_of(book, seen, size):
    """The links of boards with this sight and of this size."""
    names = carriers(book, seen)
    found = []
    for entry, bit in zip(book[5], seen[len(book[3]):]):
        if bit == 1 and size <= entry[5] and entry[2] in names:
            found.append((entry[1], entry[2], entry[4]))
    return tuple(found)


def ways_on(ways, links, reached):
    """The least ways to sites that are not reached yet, which go on from these ascending ways by one feed."""
    found = {}
    for way in ways:
        for giver, taker, bound in links:
            # A way of so many sites has one feed less, so that its length is the number of the next one.
            if giver == way[-1] and len(way) <= bound and taker not in reached and taker not in found:
                found[taker] = way + (taker,)
    return found


def ways_from(origin, names, links):
    """The least way to each site that is reached from the origin, where sites with these names carry."""
    if origin not in names:
        return {}
    reached = {origin: (origin,)}
    level = [(origin,)]
    while level:
        found = ways_on(level, links, reached)
        reached.update(found)
        level = sorted(found.values())
    return reached


def ways_of(book, kind):
    """The least way to each site that the kind reaches."""
    seen = book_sight(book, kind[2])
    return ways_from(kind[1], carriers(book, seen), links_of(book, seen, kind[3]))


def reach_by(ways):
    """The reach that such least ways tell."""
    return tuple(sorted([(name, len(way) - 1) for name, way in ways.items()]))
