"""The sights that single boards have through some patterns."""

from criermoot.spots import Places, Walk


def atoms(patterns):
    """All sights that a board has, ascending, each with its least board; raises TooMany."""
    places = Places(patterns)
    walk = Walk(places)
    boards = {}
    while walk.level:
        walk.keep_bound()
        for beginning, spot in walk.level:
            seen = tuple([1 if places.lets(spot, number) else 0 for number in range(len(patterns))])
            if spot[0] == 0 and seen not in boards:
                boards[seen] = beginning
        walk.go_on()
    return tuple(sorted(boards.items()))
