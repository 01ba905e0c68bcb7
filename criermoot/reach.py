"""Which sites a kind reaches, and with how many hops."""

from criermoot.links import reach_by, ways_of


def reach(book, kind):
    """The pairs of the sites that are reached, and of their hops, ascending."""
    return reach_by(ways_of(book, kind))


def hops_of(book, kind):
    """The hops for each site of the book, in its order, None where it is not reached."""
    ways = ways_of(book, kind)
    return tuple([len(ways[entry[1]]) - 1 if entry[1] in ways else None for entry in book[3]])
