"""How many feeds must be shut to keep a kind from a site."""

from criermoot.links import book_sight, carriers, links_of
from criermoot.signs import are_different


def open_feeds(book, kind):
    """The pairs of giver and taker of the feeds that open ways of the kind can have."""
    seen = book_sight(book, kind[2])
    names = carriers(book, seen)
    return tuple([(giver, taker) for giver, taker, _ in links_of(book, seen, kind[3]) if giver in names])


def steps_from(name, feeds, used):
    """The steps that can still be made from a site: along a feed that is not used, or back along a used one."""
    along = [(taker, (giver, taker)) for giver, taker in feeds if giver == name and (giver, taker) not in used]
    back = [(giver, (giver, taker)) for giver, taker in feeds if taker == name and (giver, taker) in used]
    return along + back


def steps_back(origin, feeds, used):
    """For each site to which steps lead, the site ahead of it and the feed of the last step."""
    found = {origin: None}
    level = [origin]
    while level:
        behind = []
        for name in level:
            for taker, feed in steps_from(name, feeds, used):
                if taker not in found:
                    found[taker] = (name, feed)
                    behind.append(taker)
        level = behind
    return found


def feeds_to(back, site):
    """The feeds of such steps up to a site, in order."""
    found = []
    while back[site] is not None:
        site, feed = back[site]
        found.append(feed)
    return found[::-1]


def turn_feeds(used, steps):
    """Uses the feeds of some steps, and takes back those that were used."""
    for feed in steps:
        if feed in used:
            del used[feed]
        else:
            used[feed] = True


def ways_along(used, origin, site):
    """Ways from the origin to the site along used feeds, as many as there are, none with a feed of another one."""
    ways = []
    left = list(used)
    back = steps_back(origin, left, {})
    while site in back:
        steps = feeds_to(back, site)
        ways.append((origin,) + tuple([feed[1] for feed in steps]))
        left = [feed for feed in left if feed not in steps]
        back = steps_back(origin, left, {})
    return tuple(ways)


def spare(book, kind, site):
    """A spare paper for a site other than the origin."""
    feeds = open_feeds(book, kind)
    used = {}
    back = steps_back(kind[1], feeds, used)
    while site in back:
        turn_feeds(used, feeds_to(back, site))
        back = steps_back(kind[1], feeds, used)
    # What still can be stepped to is left by as many feeds as there are ways.
    shut = [feed for feed in feeds if feed[0] in back and feed[1] not in back]
    return ("spare", ways_along(used, kind[1], site), tuple(shut))


def feeds_along(way):
    """The pairs of each site of a way and the next one."""
    return [(way[place], way[place + 1]) for place in range(len(way) - 1)]


def is_open_way(feeds, origin, site, way):
    """Whether a tuple of names is a way from the origin to another site along these feeds."""
    if len(way) == 0 or way[0] != origin or way[-1] != site or not are_different(way):
        return False
    return all([feed in feeds for feed in feeds_along(way)])


def judge_spare(book, kind, site, paper):
    """Whether a spare paper for a site other than the origin is right."""
    if paper[0] != "spare":
        return False
    ways, shut = paper[1:]
    feeds = open_feeds(book, kind)
    if len(ways) != len(shut) or not all([is_open_way(feeds, kind[1], site, way) for way in ways]):
        return False
    if not are_different([feed for way in ways for feed in feeds_along(way)]):
        return False
    left = [feed for feed in feeds if feed not in shut]
    return site not in steps_back(kind[1], left, {})
