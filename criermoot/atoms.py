"""The sights that single boards have through some patterns."""

from criermoot.spots import Places, Walk


def least_boards(patterns, bounded):
    """Each sight that a board has, with its least board; raises TooMany if spots are bounded and too many."""
    places = Places(patterns)
    walk = Walk(places)
    boards = {}
    while walk.level:
        if bounded:
            walk.keep_bound()
        for beginning, spot in walk.level:
            seen = tuple([1 if places.lets(spot, number) else 0 for number in range(len(patterns))])
            if spot[0] == 0 and seen not in boards:
                boards[seen] = beginning
        walk.go_on()
    return boards


def atoms(patterns):
    """All sights that a board has, ascending, each with its least board; raises TooMany."""
    return tuple(sorted(least_boards(patterns, True).items()))
