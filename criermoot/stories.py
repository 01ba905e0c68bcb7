"""What happens on a board, and the desks that hear of it."""


class Story:
    """The changes on a board, of which the last ones are kept."""

    def __init__(self, limit):
        self._limit = limit
        self._stamp = 0
        self._changes = []
        self._numbers = {}

    @property
    def last(self):
        """The last stamp."""
        return self._stamp

    def new(self, number, id):
        """A number is new."""
        self._numbers[number] = id
        self.keep_change(("new", number, id))

    def gone(self, number):
        """A number is gone."""
        del self._numbers[number]
        self.keep_change(("gone", number))

    def keep_change(self, change):
        """Keeps a change, and forgets the oldest one that is too many."""
        self._stamp += 1
        self._changes.append(change)
        if len(self._changes) > self._limit:
            self._changes.pop(0)

    def has_number(self, number):
        """Whether a number is in the view."""
        return number in self._numbers

    def since(self, stamp):
        """The answer to a desk with this stamp."""
        many = self._stamp - stamp
        if many > len(self._changes):
            return ("whole", self._stamp, self.pairs())
        return ("since", self._stamp, tuple(self._changes[len(self._changes) - many:]))

    def pairs(self):
        """The view."""
        return tuple(sorted(self._numbers.items()))

    def kept_value(self):
        """A value of all that is kept."""
        return (self._stamp, tuple(self._changes), self.pairs())

    def put_value(self, value):
        """Puts such a value of a story with the same limit in place."""
        self._stamp, changes, pairs = value
        self._changes = list(changes)
        self._numbers = {number: id for number, id in pairs}


class Desk:
    """A view of a board that is made of the answers of its story."""

    def __init__(self):
        self._stamp = 0
        self._numbers = {}

    @property
    def stamp(self):
        """The stamp of the last answer that was heard."""
        return self._stamp

    @property
    def view(self):
        """The pairs of numbers and ids, ascending."""
        return tuple(sorted(self._numbers.items()))

    def hear(self, answer):
        """Hears an answer of the story."""
        word, last, told = answer
        if word == "whole":
            self._numbers = {number: id for number, id in told}
        else:
            for change in told:
                self.do_change(change)
        self._stamp = last

    def do_change(self, change):
        """Does a change to the view."""
        if change[0] == "new":
            self._numbers[change[1]] = change[2]
        else:
            self._numbers.pop(change[1], None)
