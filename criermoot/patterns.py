"""Patterns: reading and writing them, and which boards they let."""

from criermoot.errors import BadPattern, TooLarge
from criermoot.globs import fits

MOST_ITEMS = 8
LONGEST_PATTERN = 60
GLOB_SIGNS = "abcdefghijklmnopqrstuvwxyz0123456789.*?"


def may_stand(sign, ahead, commas, place):
    """Whether a sign may stand at a place of a pattern, behind another sign and so many commas."""
    if sign == "!":
        return ahead == "," and place < LONGEST_PATTERN - 1
    if sign == ",":
        return ahead not in ",!" and commas < MOST_ITEMS - 1 and place < LONGEST_PATTERN - 1
    return sign in GLOB_SIGNS and place < LONGEST_PATTERN


def wrong_place(text):
    """The place of the first wrong character of a string, None if it is a pattern."""
    # A pattern begins as if a comma stood ahead of it.
    ahead = ","
    commas = 0
    for place, sign in enumerate(text):
        if not may_stand(sign, ahead, commas, place):
            return place
        if sign == ",":
            commas += 1
        ahead = sign
    return len(text) if ahead in ",!" else None


def is_pattern(text):
    """Whether a string is a pattern."""
    return wrong_place(text) is None


def items_of(pattern):
    """The items of a pattern, pairs of the sign and the glob."""
    return tuple([(0, item[1:]) if item.startswith("!") else (1, item) for item in pattern.split(",")])


def read_pattern(text):
    """The items of a string that is to be a pattern; raises BadPattern."""
    place = wrong_place(text)
    if place is not None:
        raise BadPattern(place)
    return items_of(text)


def write_pattern(items):
    """The pattern of items."""
    return ",".join([glob if sign == 1 else "!" + glob for sign, glob in items])


def opposite(pattern):
    """The pattern that lets the boards that this one does not let; raises TooLarge."""
    turned = [(1 - sign, glob) for sign, glob in items_of(pattern)]
    found = write_pattern([(1, "*")] + turned)
    if not is_pattern(found):
        raise TooLarge("pattern")
    return found


def lets(pattern, board):
    """Whether the pattern lets the board."""
    for sign, glob in reversed(items_of(pattern)):
        if fits(glob, board):
            return sign == 1
    return False


def lets_one(pattern, boards):
    """Whether the pattern lets one of the boards."""
    return any([lets(pattern, board) for board in boards])


def sight(patterns, boards):
    """The sight of a tuple of boards through a tuple of patterns."""
    return tuple([1 if lets_one(pattern, boards) else 0 for pattern in patterns])
