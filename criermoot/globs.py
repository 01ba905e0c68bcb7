"""Globs, and at which of their places a beginning stands."""


def add_place(glob, places, place):
    """Puts a place behind ascending ones, with all that are reached from it over stars."""
    # If a later place is there, a row of stars led over this one, so that it is there, too.
    if places and places[-1] >= place:
        return
    places.append(place)
    while place < len(glob) and glob[place] == "*":
        place += 1
        places.append(place)


def follows(glob, standing, character):
    """The standing that follows on a standing by a character."""
    places = []
    for place in standing:
        if place > 0 and glob[place - 1] == "*":
            add_place(glob, places, place)
        if place < len(glob) and glob[place] in ("?", character):
            add_place(glob, places, place + 1)
    return tuple(places)


def standing(glob, beginning):
    """The standing of a glob behind a beginning."""
    places = []
    add_place(glob, places, 0)
    found = tuple(places)
    for character in beginning:
        found = follows(glob, found, character)
    return found


def fits(glob, board):
    """Whether the glob stands for the whole board."""
    return len(glob) in standing(glob, board)
