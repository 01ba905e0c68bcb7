"""Comparing two patterns, with a paper that they let the same boards."""

from criermoot.spots import Places, Walk


def part_here(places, spot):
    """Whether exactly one of two patterns lets a board that ends at a spot."""
    return spot[0] == 0 and places.lets(spot, 0) != places.lets(spot, 1)


def compared_patterns(pattern, other):
    """The least board that parts two patterns, or all their spots; raises TooMany."""
    places = Places((pattern, other))
    walk = Walk(places)
    while walk.level:
        for beginning, spot in walk.level:
            if part_here(places, spot):
                return ("part", beginning)
        walk.keep_bound()
        walk.go_on()
    return ("alike", tuple(sorted([places.told_spot(spot) for spot in walk.met])))


def is_standing(glob, standing):
    """Whether a tuple of integers can be the standing of a glob behind some beginning."""
    last = -1
    for place in standing:
        if not last < place <= len(glob):
            return False
        if last >= 0 and glob[last] == "*" and place != last + 1:
            return False
        last = place
    return last in (-1, len(glob)) or glob[last] != "*"


def are_standings(placed, standings):
    """Whether these can be the standings of the placed items of a pattern."""
    if len(placed) != len(standings):
        return False
    return all([is_standing(item[1], standing) for item, standing in zip(placed, standings)])


def standing_bits(placed, standings):
    """The bits of the places in the standings of the placed items of a pattern."""
    bits = 0
    for item, standing in zip(placed, standings):
        for place in standing:
            bits = bits | (1 << (item[2] + place))
    return bits


def spot_of(places, told):
    """The spot that is told in this form, None if it can be none."""
    if len(told) != 2 or told[0] not in (0, 1) or len(told[1]) != len(places.placed):
        return None
    bits = 0
    for placed, standings in zip(places.placed, told[1]):
        if not are_standings(placed, standings):
            return None
        bits = bits | standing_bits(placed, standings)
    return (told[0], bits)


def judge_spots(pattern, other, spots):
    """Whether a tuple of spots shows that two patterns let the same boards."""
    places = Places((pattern, other))
    known = {}
    for told in spots:
        spot = spot_of(places, told)
        if spot is None:
            return False
        known[spot] = True
    if places.first not in known:
        return False
    for spot in known:
        if part_here(places, spot):
            return False
        if not all([places.behind(spot, sign) in known for sign in places.signs_behind(spot)]):
            return False
    return True
