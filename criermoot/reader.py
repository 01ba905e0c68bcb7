"""Readers, which know what a person has read at several sites."""


class Reader:
    """The ids that a person has read."""

    def __init__(self):
        self._read = {}

    def new(self, view):
        """The pairs of a view whose ids are not read, in order."""
        return tuple([(number, id) for number, id in view if id not in self._read])

    def read(self, id):
        """The person reads an id."""
        self._read[id] = True

    def meet(self, other):
        """Brings two readers together: both have what one of them has."""
        for id in other.ids():
            self.read(id)
        for id in self.ids():
            other.read(id)

    def ids(self):
        """The ids that are read, ascending."""
        return tuple(sorted(self._read))
