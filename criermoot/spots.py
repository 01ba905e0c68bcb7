"""The spots of some patterns, and how they are reached.

Each place of each glob of the patterns is a bit of one number, so that all globs go on by a
character at once. A spot is kept as a pair: 1 or 0, whether it is open, and the number with
the bits of the places at which its beginnings stand.
"""

from criermoot.errors import TooMany
from criermoot.patterns import items_of
from criermoot.signs import DIGITS, LETTERS

MOST_SPOTS = 600


def tried_signs(signs, used):
    """Those of the signs that are used, and the first one that is not, in their order."""
    # All signs that no glob names lead to the same spot, and the first of them is the least.
    unused = [sign for sign in signs if sign not in used]
    return tuple([sign for sign in signs if sign in used or sign == unused[0]])


def has_bit(bits, place):
    """Whether the bit at a place is 1."""
    return bits >> place & 1 == 1


class Places:
    """The bits of the places of all globs of some patterns."""

    def __init__(self, patterns):
        self.many = 0
        self.begins = 0
        self.stars = 0
        self.anys = 0
        self.takes = {}
        placed = []
        for pattern in patterns:
            placed.append(self.add_pattern(pattern))
        self.placed = tuple(placed)
        self.letters = tried_signs(LETTERS, self.takes)
        self.others = (".",) + tried_signs(DIGITS, self.takes)
        self.first = (1, self.over_stars(self.begins))

    def add_pattern(self, pattern):
        """Gives bits to the places of a pattern; its items, each with the number of the first of its bits."""
        found = []
        for sign, glob in items_of(pattern):
            found.append((sign, glob, self.add_glob(glob)))
        return tuple(found)

    def add_glob(self, glob):
        """Gives bits to the places of a glob; the number of the first one."""
        base = self.many
        self.many = base + len(glob) + 1
        self.begins = self.begins | (1 << base)
        for place, sign in enumerate(glob):
            bit = 1 << (base + place)
            if sign == "*":
                self.stars = self.stars | bit
            elif sign == "?":
                self.anys = self.anys | bit
            else:
                self.takes[sign] = self.takes.get(sign, 0) | bit
        return base

    def over_stars(self, bits):
        """The bits, with those that are reached from them over stars that stand for nothing."""
        more = bits | ((bits & self.stars) << 1)
        while more != bits:
            bits = more
            more = bits | ((bits & self.stars) << 1)
        return bits

    def behind(self, spot, sign):
        """The spot that follows on a spot by a sign."""
        bits = spot[1]
        stay = bits & (self.stars << 1)
        step = bits & (self.anys | self.takes.get(sign, 0))
        return (1 if sign == "." else 0, self.over_stars(stay | (step << 1)))

    def signs_behind(self, spot):
        """Signs that can follow on a spot, ascending, which lead to all spots that can follow."""
        return self.letters if spot[0] == 1 else self.others + self.letters

    def lets(self, spot, number):
        """Whether the pattern with this number lets a board that ends at a spot."""
        for sign, glob, base in reversed(self.placed[number]):
            if has_bit(spot[1], base + len(glob)):
                return sign == 1
        return False

    def told_spot(self, spot):
        """A spot in the form in which it is told."""
        return (spot[0], tuple([self.told_standing(spot[1], placed) for placed in self.placed]))

    def told_standing(self, bits, placed):
        """The standing of a pattern, given by its placed items."""
        found = []
        for _, glob, base in placed:
            found.append(tuple([place for place in range(len(glob) + 1) if has_bit(bits, base + place)]))
        return tuple(found)


class Walk:
    """The spots of some patterns that are reached by beginnings of a length, and of lesser ones.

    The level has the spots that are reached by the length, but by no lesser one, as pairs of the
    least such beginning and the spot, ascending.
    """

    def __init__(self, places):
        self.places = places
        self.level = [("", places.first)]
        self.met = {places.first: True}

    def keep_bound(self):
        """Raises TooMany if more spots are known than there may be."""
        if len(self.met) > MOST_SPOTS:
            raise TooMany("spots")

    def go_on(self):
        """Goes on to beginnings that are longer by one."""
        found = []
        for beginning, spot in self.level:
            for sign in self.places.signs_behind(spot):
                new = self.places.behind(spot, sign)
                if new not in self.met:
                    self.met[new] = True
                    found.append((beginning + sign, new))
        self.level = found
