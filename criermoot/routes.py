"""How letters go from site to site."""

from criermoot.books import neighbours


def distances(book, site):
    """The distance from a site of each site to which lines lead."""
    found = {site: 0}
    level = [site]
    while level:
        behind = []
        for name in level:
            for other in neighbours(book, name):
                if other not in found:
                    found[other] = found[name] + 1
                    behind.append(other)
        level = behind
    return found


def distance(book, site, other):
    """The least number of lines from one site to the other, None if no lines lead there."""
    return distances(book, site).get(other)


def next_site(book, here, goal):
    """The next site of what goes from one site to the other, None if there is none."""
    found = distances(book, goal)
    if here == goal or here not in found:
        return None
    # Neighbours are told in ascending order, so the first one is the least.
    nearer = [name for name in neighbours(book, here) if found[name] == found[here] - 1]
    return nearer[0]
