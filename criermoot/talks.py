"""Talks in a world, with the words that are on their way."""

from criermoot.giver import Giver
from criermoot.taker import Taker


class Talk:
    """A talk from a giver to a taker, both given by their names."""

    def __init__(self, giver, taker, items, clears):
        self.giving = Giver(giver, taker, items, clears)
        self.taking = Taker(giver, taker)
        # The hops that the shelf has at the beginning, by the keys of notices.
        self.begun_at = {item[1]: item[2] - 1 for item in items if item[0] == "notice"}
        # The words on their way to the taker and to the giver, and the key of the body that was begun by the last word.
        self.ahead = []
        self.back = []
        self.body = None

    def say(self):
        """The next word of the giver, which then is on its way, or None."""
        amid = self.giving.is_amid_body()
        word = self.giving.next_word()
        self.body = None
        if word is not None:
            self.ahead.append(word)
            if self.giving.is_amid_body() and not amid:
                self.body = word.split(" ")[1]
        return word

    def begun_hops(self, key):
        """The hops of a key when the talk began, 0 of letters and clears."""
        return self.begun_at.get(key, 0)
