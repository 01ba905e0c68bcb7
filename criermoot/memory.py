"""How long a site must remember."""

from criermoot.allreach import sights_of
from criermoot.books import site_of
from criermoot.links import book_patterns, carriers, links_of, ways_from

# What lets a notice through lets a smaller one through, too, and with no more hops.
LEAST_SIZE = 1


def book_sights(book):
    """Each sight that the boards of a notice have through the patterns of a book, with such boards; raises TooMany."""
    return sights_of(book_patterns(book))


def ways_into(book, sights, site):
    """For each origin of a kind that comes to a site, boards of such a kind of the size 1, and a way.

    The boards are told with their sights; the way is the least one to the giver of a feed over which the kind comes.
    """
    found = {}
    for seen, boards in sights.items():
        names = carriers(book, seen)
        links = links_of(book, seen, LEAST_SIZE)
        last = [(giver, bound) for giver, taker, bound in links if taker == site]
        for origin in names:
            ways = ways_from(origin, names, links)
            # A way has one site more than hops, so that its length is the number of the feed behind it.
            told = [ways[giver] for giver, bound in last if giver in ways and len(ways[giver]) <= bound]
            if told and origin not in found:
                found[origin] = (boards, told[0])
    return found


def senders_to(book, site):
    """The sites that send to a site, ascending; raises TooMany."""
    return tuple(sorted(ways_into(book, book_sights(book), site)))


def memory_for(book, origin, site):
    """The memory with which a site cannot take twice what the other one dates; it can be below 0."""
    return book[1] + site_of(book, origin)[2] - site_of(book, site)[2]


def memory_by(book, sights, site):
    """The least memory of a site, by the sights of boards."""
    origins = list(ways_into(book, sights, site))
    # What a steward lets out can be dated by any site.
    if origins and book[6]:
        origins = [entry[1] for entry in book[3]]
    return max([0] + [memory_for(book, origin, site) for origin in origins])


def least_memory(book, site):
    """The least memory of a site; raises TooMany."""
    return memory_by(book, book_sights(book), site)


def enough(book):
    """Whether the memory of each site is at least its least memory; raises TooMany."""
    sights = book_sights(book)
    return all([entry[3] >= memory_by(book, sights, entry[1]) for entry in book[3]])
