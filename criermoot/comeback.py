"""How a notice comes twice to a site that forgets too early."""

from criermoot.books import site_of
from criermoot.memory import book_sights, memory_for, ways_into

BODY = ("text", "plain", ())


def acts_along(way):
    """The acts by which a notice goes along a way."""
    return tuple([("talk", way[place], way[place + 1]) for place in range(len(way) - 1)])


def acts_of(site, memory, boards, way):
    """A row of acts by which a site with this memory takes a notice twice, which comes along a way to a giver."""
    giver = way[-1]
    acts = (("post", f"ann@{way[0]}", boards, "", (), ("post",), BODY),) + acts_along(way)
    if site not in way:
        # The giver falls before it has settled what the site has taken, so that it offers it again.
        acts = acts + (("trip", giver, 0, 0), ("talk", giver, site), ("wake", giver))
    acts = acts + (("break", giver, site),) + (("tick",),) * (memory + 1)
    return acts + (("mend", giver, site), ("talk", giver, site))


def comeback(book, site):
    """Acts by which a site takes an id twice, None if its memory is enough; for books without stewards.

    Raises TooMany.
    """
    memory = site_of(book, site)[3]
    for origin, told in ways_into(book, book_sights(book), site).items():
        if memory < memory_for(book, origin, site):
            return acts_of(site, memory, told[0], told[1])
    return None
