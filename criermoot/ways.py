"""The ways of a kind, and labels that bound its hops."""

from criermoot.books import feed_of
from criermoot.feeds import passes
from criermoot.links import book_sight, carriers, links_of, ways_of
from criermoot.signs import are_different


def least_way(book, kind, site):
    """The least way to the site that holds for the kind, None if there is none."""
    return ways_of(book, kind).get(site)


def passes_all(book, kind, way):
    """Whether there is a feed from each site of a way to the next one, which passes the kind at its hops."""
    for hops in range(len(way) - 1):
        feed = feed_of(book, way[hops], way[hops + 1])
        if feed is None or not passes(feed, kind[2], kind[3], hops):
            return False
    return True


def is_begun(book, kind, way):
    """Whether a tuple of names has different sites, begins at the origin, and all its sites carry the kind."""
    if len(way) == 0 or way[0] != kind[1] or not are_different(way):
        return False
    names = carriers(book, book_sight(book, kind[2]))
    return all([name in names for name in way])


def judge_way(book, kind, site, way):
    """Whether a tuple of names is a way to the site that holds for the kind."""
    return is_begun(book, kind, way) and way[-1] == site and passes_all(book, kind, way)


def keeps_link(label, bound, behind):
    """Whether the labels of the giver and the taker of a link with this bound on hops fit."""
    if label is None or label + 1 > bound:
        return True
    return behind is not None and behind <= label + 1


def judge_labels(book, kind, labels):
    """Whether labels for the sites of the book bound the hops of the kind from below."""
    names = [entry[1] for entry in book[3]]
    if len(labels) != len(names) or not all([label is None or label >= 0 for label in labels]):
        return False
    told = dict(zip(names, labels))
    seen = book_sight(book, kind[2])
    if kind[1] in carriers(book, seen) and told[kind[1]] != 0:
        return False
    links = links_of(book, seen, kind[3])
    return all([keeps_link(told[giver], bound, told[taker]) for giver, taker, bound in links])
