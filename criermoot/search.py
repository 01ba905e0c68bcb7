"""Searching notices."""

from criermoot.judging import is_from
from criermoot.names import words_of


def texts_in(part):
    """The texts in a part of a body."""
    if part[0] == "text":
        return [part]
    found = []
    if part[0] == "parts":
        for inner in part[1]:
            found.extend(texts_in(inner))
    return found


def rows_of_words(notice):
    """The words of the subject and of each row of a text of a notice."""
    rows = [row for part in texts_in(notice[9]) for row in part[2]]
    return tuple([words_of(row) for row in [notice[5]] + rows])


def is_near(words, name, other, most):
    """Whether two words at different places of a row, at most so far apart, are the one and the other."""
    for place, word in enumerate(words):
        ahead = words[max(place - most, 0):place]
        if (word == name and other in ahead) or (word == other and name in ahead):
            return True
    return False


def fits_basic(query, notice, rows):
    """Whether a basic query fits a notice with these rows of words."""
    word = query[0]
    if word == "word":
        return any([query[1] in words for words in rows])
    if word == "near":
        return any([is_near(words, query[1], query[2], query[3]) for words in rows])
    if word == "by":
        return is_from(query[1], query[2], notice[2])
    return notice[3] < query[1]


def fits_rows(query, notice, rows):
    """Whether a query fits a notice with these rows of words."""
    word = query[0]
    if word == "not":
        return not fits_rows(query[1], notice, rows)
    if word == "and":
        return fits_rows(query[1], notice, rows) and fits_rows(query[2], notice, rows)
    if word == "or":
        return fits_rows(query[1], notice, rows) or fits_rows(query[2], notice, rows)
    return fits_basic(query, notice, rows)


def fits_query(query, notice):
    """Whether a query fits a notice."""
    return fits_rows(query, notice, rows_of_words(notice))


class Index:
    """Notices that are searched."""

    def __init__(self):
        # Each notice with its rows of words.
        self._entries = {}

    def put(self, notice):
        """Puts a notice in, unless its id is in."""
        if notice[1] not in self._entries:
            self._entries[notice[1]] = (notice, rows_of_words(notice))

    def drop(self, id):
        """Takes the notice of an id out, if it is in."""
        self._entries.pop(id, None)

    def found(self, query):
        """The ids of the notices that fit a query, in the order of dates and ids."""
        entries = list(self._entries.values())
        places = [(notice[3], notice[1]) for notice, rows in entries if fits_rows(query, notice, rows)]
        return tuple([id for _, id in sorted(places)])
