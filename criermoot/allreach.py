"""The table of a book, which has the reach of every notice."""

from criermoot.atoms import atoms
from criermoot.errors import TooMany
from criermoot.fields import MOST_BOARDS
from criermoot.links import book_patterns, book_sight, carriers, links_of, reach_by, ways_from

MOST_SIGHTS = 60


def joined_sight(seen, other):
    """The sight of boards of which some have the one sight, and the others the other one."""
    return tuple([max(bit, more) for bit, more in zip(seen, other)])


def with_board(found, singles):
    """Sights with boards that have them, and what comes of these by a further board."""
    told = {seen: boards for seen, boards in found.items()}
    for seen, boards in found.items():
        for single, board in singles:
            both = joined_sight(seen, single)
            if both not in told:
                told[both] = boards + (board,)
    return told


def keep_sights(found):
    """Raises TooMany if there are more sights than there may be."""
    if len(found) > MOST_SIGHTS:
        raise TooMany("sights")


def sights_of(patterns):
    """Each sight that the boards of a notice have through the patterns, with such boards; raises TooMany."""
    singles = atoms(patterns)
    found = {seen: (board,) for seen, board in singles}
    keep_sights(found)
    for _ in range(MOST_BOARDS - 1):
        found = with_board(found, singles)
        keep_sights(found)
    return found


def sizes_of(book):
    """The sizes of the rows of a table."""
    sizes = sorted(set([entry[5] for entry in book[5]]))
    return tuple(sizes + [max(sizes, default=0) + 1])


def row_of(book, seen, size):
    """The row of a table for boards with this sight, and for this size."""
    names = carriers(book, seen)
    links = links_of(book, seen, size)
    return (size, tuple([reach_by(ways_from(entry[1], names, links)) for entry in book[3]]))


def table_of(book):
    """The table of a book; raises TooMany."""
    sizes = sizes_of(book)
    found = sights_of(book_patterns(book))
    return tuple([(seen, found[seen], tuple([row_of(book, seen, size) for size in sizes])) for seen in sorted(found)])


def looked_up(book, table, kind):
    """The reach of a kind, taken from the table of the book."""
    seen = book_sight(book, kind[2])
    rows = [entry[2] for entry in table if entry[0] == seen][0]
    reaches = [row[1] for row in rows if kind[3] <= row[0]] + [rows[-1][1]]
    names = [entry[1] for entry in book[3]]
    return reaches[0][names.index(kind[1])]
