"""A ledger, which keeps a disk and falls when it is told to."""

from criermoot.areas import deeds_from
from criermoot.errors import Fallen
from criermoot.journal import added, adding_writes, content, end_of, renewing_writes, written


class Trial:
    """Behind the block of a trial, a ledger is as it was ahead of it."""

    def __init__(self, ledger):
        self.ledger = ledger
        self.kept_disk = None
        self.kept_trip = None

    def __enter__(self):
        """Keeps what the ledger has, and gives the ledger."""
        self.kept_disk = self.ledger.disk
        self.kept_trip = self.ledger.told_trip()
        return self.ledger

    def __exit__(self, kind, value, trace):
        """Gives back to the ledger what it had."""
        ledger = self.ledger
        ledger._disk = self.kept_disk
        ledger._trip = self.kept_trip
        ledger._end = None


class Ledger:
    """A disk, to which values are added, and which is renewed."""

    def __init__(self, disk=((), ())):
        self._disk = disk
        self._trip = None
        # The end of the disk, None as long as it has not been looked for.
        self._end = None

    @property
    def disk(self):
        """The disk."""
        return self._disk

    @disk.setter
    def disk(self, value):
        """Puts another disk in place, and takes a trip away."""
        self._disk = value
        self._trip = None
        self._end = None

    def told_trip(self):
        """The pair of the writes and whether the next one is torn of the trip that is set, None without one."""
        return self._trip

    def found_end(self):
        """The end of the disk, which is looked for only once."""
        if self._end is None:
            self._end = end_of(self._disk)
        return self._end

    def put(self, writes):
        """Does the writes of a deed or a renewal; raises Fallen by a trip."""
        trip = self._trip
        self._trip = None
        self._end = None
        if trip is not None:
            self._disk = written(self._disk, writes, trip[0], trip[1])
            raise Fallen()
        self._disk = written(self._disk, writes, len(writes))

    def go_on(self, end):
        """Keeps the end of the disk, which is at least this one."""
        area, generation, deeds, place = end
        # Blocks that stood behind can turn out to go on now.
        values, place = deeds_from(self._disk[area], place, generation, deeds)
        self._end = (area, generation, deeds + len(values), place)

    def add(self, value):
        """Adds a value to the disk; raises Fallen by a trip."""
        area, generation, deeds, place = self.found_end()
        writes = adding_writes((area, generation, deeds, place), value)
        self.put(writes)
        self.go_on((area, generation, max(deeds, 1) + 1, place + len(writes)))

    def renew(self, values):
        """Renews the disk with a tuple of values; raises Fallen by a trip."""
        area, generation, deeds, place = self.found_end()
        writes = renewing_writes((area, generation, deeds, place), values)
        self.put(writes)
        if deeds > 0:
            self.go_on((1 - area, generation + 1, 1, len(writes)))
        else:
            self.go_on((area, generation, 1, len(writes)))

    def trip(self, count, torn):
        """The next deed or renewal falls behind so many writes, with the next one torn if torn is 1."""
        self._trip = (count, torn)

    def contents(self):
        """The content of the disk."""
        return content(self._disk)

    def trial(self):
        """For a block behind which the disk and a trip are what they were."""
        return Trial(self)

    def tried(self, value, count, torn=0):
        """The content that the disk would have if the value was added and fell behind so many writes."""
        return content(written(self._disk, added(self._disk, value), count, torn))
