"""Patterns, globs and spots as the document defines them, without any haste."""

import functools
import re

LETTERS = "abcdefghijklmnopqrstuvwxyz"
DIGITS = "0123456789"
PATTERN = re.compile(r"!?[a-z0-9.*?]+(,!?[a-z0-9.*?]+){0,7}")


def stands_for(glob, text):
    """Whether a glob stands for a whole text."""
    signs = {"*": ".*", "?": ".", ".": r"\."}
    return re.fullmatch("".join(signs.get(sign, sign) for sign in glob), text) is not None


def is_pattern(text):
    return len(text) <= 60 and PATTERN.fullmatch(text) is not None


def begins_pattern(text):
    """Whether a text is the beginning of some pattern: what is open is closed by one sign."""
    return text == "" or is_pattern(text) or is_pattern(text + "a")


def wrong_place(text):
    """The place of the first wrong character, None if the text is a pattern."""
    if is_pattern(text):
        return None
    for place in range(len(text)):
        if not begins_pattern(text[:place + 1]):
            return place
    return len(text)


def items_of(pattern):
    return [(0, item[1:]) if item[0] == "!" else (1, item) for item in pattern.split(",")]


@functools.cache
def lets(pattern, board):
    told = False
    for sign, glob in items_of(pattern):
        if stands_for(glob, board):
            told = sign == 1
    return told


def closed(glob, places):
    places = set(places)
    for place in range(len(glob)):
        if place in places and glob[place] == "*":
            places.add(place + 1)
    return tuple(sorted(places))


def first_spot(patterns):
    return (1, tuple(tuple(closed(glob, [0]) for _, glob in items_of(pattern)) for pattern in patterns))


def glob_behind(glob, places, sign):
    stay = [place for place in places if place > 0 and glob[place - 1] == "*"]
    step = [place + 1 for place in places if place < len(glob) and glob[place] in ("?", sign)]
    return closed(glob, stay + step)


def spot_behind(patterns, spot, sign):
    standings = tuple(
        tuple(glob_behind(glob, places, sign) for (_, glob), places in zip(items_of(pattern), standing))
        for pattern, standing in zip(patterns, spot[1]))
    return (1 if sign == "." else 0, standings)


def can_follow(spot):
    return LETTERS if spot[0] else "." + DIGITS + LETTERS


def lets_here(pattern, standing):
    told = False
    for (sign, glob), places in zip(items_of(pattern), standing):
        if len(glob) in places:
            told = sign == 1
    return told


def levels(patterns, most=3000):
    """For each length, the least beginnings of the spots that are first reached by it."""
    known = {first_spot(patterns): ""}
    level = dict(known)
    found = []
    while level and len(known) <= most:
        found.append(level)
        behind = {}
        for spot, beginning in level.items():
            for sign in can_follow(spot):
                new = spot_behind(patterns, spot, sign)
                if new not in known:
                    known[new] = behind[new] = beginning + sign
        level = behind
    return found


def compared(pattern, other):
    """What comparing tells; "spots" where there are too many."""
    ahead = 0
    spots = []
    for level in levels((pattern, other)):
        for spot, beginning in sorted(level.items(), key=lambda pair: pair[1]):
            if spot[0] == 0 and lets_here(pattern, spot[1][0]) != lets_here(other, spot[1][1]):
                return "spots" if ahead > 600 else ("part", beginning)
        ahead += len(level)
        spots.extend(level)
    return "spots" if ahead > 600 else ("alike", tuple(sorted(spots)))


def atoms(patterns):
    """All sights, each with its least board; "spots" where there are too many."""
    found = {}
    many = 0
    for level in levels(patterns):
        many += len(level)
        for spot, beginning in sorted(level.items(), key=lambda pair: pair[1]):
            if spot[0] == 0:
                seen = tuple(int(lets_here(pattern, standing)) for pattern, standing in zip(patterns, spot[1]))
                found.setdefault(seen, beginning)
    return "spots" if many > 600 else tuple(sorted(found.items()))
