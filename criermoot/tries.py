"""When the directions of the lines of a book are tried."""


def directions_of(book):
    """The directions in the order of a round."""
    found = []
    for name, other in book[4]:
        found.extend([(name, other), (other, name)])
    return tuple(found)


class Tries:
    """The waits and the next tries of all directions."""

    def __init__(self, book):
        self._first, self._longest = book[2]
        self._waits = {direction: self._first for direction in directions_of(book)}
        self._nexts = {direction: 0 for direction in self._waits}

    def is_due(self, direction, time):
        """Whether a direction is to be tried at a time."""
        return time >= self._nexts[direction]

    def begin(self, direction, time):
        """The direction waits as at first, and its next try is at a time."""
        self._waits[direction] = self._first
        self._nexts[direction] = time

    def put_off(self, direction, time):
        """The direction was tried at a time in vain."""
        wait = self._waits[direction]
        self._nexts[direction] = time + wait
        self._waits[direction] = min(2 * wait, self._longest)
