"""A book whose sites are tried one by one, and short ways to make notices and posts."""

from criermoot.sites import Site
from tests import plainreach
from tests.samples import notice

BODY = ("text", "plain", ("Come soon.",))
SMALL = ("text", "plain", ())
ANY = ("any",)


def small_book(*feeds, memory=60, term=90, window=50, offset=0, stewards=(), lists=(), waits=(1, 8), lines=(), **patterns):
    """A book with the sites and feeds of `plainreach.net`, and sites that are all alike but for their patterns."""
    told = plainreach.net(*feeds, **patterns)
    sites = tuple(("site", entry[1], offset, memory, term, entry[5]) for entry in told[3])
    more = tuple(sorted(set(told[4]) | set(lines)))
    return ("book", window, waits, sites, more, told[5], tuple(stewards), tuple(lists))


# The site mill feeds its neighbours hill and quay, and takes from them; ash is a neighbour without feeds.
BOOK = small_book("mill>quay", ("mill>hill", "*,!b", 3, 4), "hill>mill", "quay>mill", ("mill>dell", "a*", 2), mill="*,!no",
                  lines=(("ash", "mill"),), ash="*")


def post(number, author="eve@quay", boards=("a",), date=10, kind=("post",), body=SMALL, **more):
    return notice(id=(author.split("@")[1], number), author=author, boards=boards, date=date, kind=kind, body=body, **more)


def hiding(word, other, number, author=None, **more):
    return post(number, author or other[2], kind=(word, other[1]), **more)


def posting(clock=5, person="ann", boards=("a",), kind=("post",), refs=(), body=SMALL, subject=""):
    """The arguments of a post."""
    return (clock, person, boards, subject, refs, kind, body)


def keys_for(site, neighbour):
    return [item[1] for item in site.items_for(neighbour)]


def changes(site, board, stamp=0):
    return site.since(board, stamp)[2]


def taken_by(book, name, *notices, clock=10, hops=1):
    """A site that has taken some notices."""
    site = Site(book, name)
    for one in notices:
        site.take(clock, hops, one)
    return site
