"""Threads, which are made of notices and of those that answer them."""


def place_of(notice):
    """What tells the order of a notice among others."""
    return (notice[3], notice[1])


def parent_of(notice, by_id):
    """The id of the parent of a notice among others, None if it has none."""
    for id in reversed(notice[6]):
        if id in by_id and place_of(by_id[id]) < place_of(notice):
            return id
    return None


def threads_of(notices):
    """The threads of some notices of different ids."""
    by_id = {notice[1]: notice for notice in notices}
    # A parent is earlier, so from the last notice on the threads below each one are whole when it is reached.
    below = {}
    tops = []
    for notice in sorted(notices, key=lambda one: (one[3], one[1]), reverse=True):
        id = notice[1]
        parent = parent_of(notice, by_id)
        beside = tops if parent is None else below.setdefault(parent, [])
        beside.append(("thread", id, tuple(reversed(below.get(id, [])))))
    return tuple(reversed(tops))


def walk(threads):
    """Yields pairs of depth and id, each notice ahead of the threads below it."""
    # Threads can be very deep, so those that are left are kept in a list, the next one last.
    left = [(0, thread) for thread in reversed(threads)]
    while left:
        depth, thread = left.pop()
        yield (depth, thread[1])
        left.extend([(depth + 1, inner) for inner in reversed(thread[2])])


class Threads:
    """Threads that are made piece by piece."""

    def __init__(self):
        self._notices = {}

    def put(self, notice):
        """Puts a notice in, unless its id is in."""
        self._notices.setdefault(notice[1], notice)

    def drop(self, id):
        """Takes the notice of an id out, if it is in."""
        self._notices.pop(id, None)

    def whole(self):
        """The threads of the notices that are in."""
        return threads_of(list(self._notices.values()))
