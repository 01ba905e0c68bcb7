"""The tables of a site, and the value that tells all of them."""

from criermoot.books import neighbours, site_of
from criermoot.lists import ListDesk
from criermoot.stories import Story

STORY_LIMIT = 20


def pairs_of(table):
    """The pairs of a table of values."""
    return tuple(table.items())


def table_of(pairs):
    """The table of such pairs."""
    return {key: value for key, value in pairs}


def rows_of(table):
    """The pairs of a table of lists."""
    return tuple([(key, tuple(row)) for key, row in table.items()])


def table_of_rows(rows):
    """The table of such pairs."""
    return {key: list(row) for key, row in rows}


class Tables:
    """What a site knows; only deeds change it."""

    def __init__(self, book, name):
        self.book = book
        self.name = name
        self.entry = site_of(book, name)
        # The number of the last id that was given.
        self.number = 0
        # Known ids with their hops and the clocks at which they were taken.
        self.known_ids = {}
        # Ids of the shelf with their hops and notices; those that are hidden; and their numbers on boards.
        self.shelf = {}
        self.hidden = {}
        self.places = {}
        # Ids of known strikes and replacements, with the ids that they name.
        self.marks = {}
        # For each board the last number that was given, and its story.
        self.counts = {}
        self.stories = {}
        # For each neighbour the keys to be handed on, those of letters that it gave, and those to be cleared with it.
        self.queues = {other: [] for other in neighbours(book, name)}
        self.given = {other: [] for other in self.queues}
        self.uncleared = {other: [] for other in self.queues}
        # The letters in queues by their keys, and held submissions by their goals and ids.
        self.letters = {}
        self.submissions = {}
        self.desk = ListDesk(book, name)
        # For each address the notes that were told.
        self.notes = {}
        # For each id that was ever taken the fewest hops, and how often it was taken.
        self.ever = {}
        # The notices that were taken at 0 hops.
        self.posts = []

    def story_of(self, board):
        """The story of a board, an empty one if nothing has happened on it."""
        return self.stories.get(board, Story(STORY_LIMIT))

    def kept_value(self):
        """A value of all tables."""
        places = tuple([(id, pairs_of(numbers)) for id, numbers in self.places.items()])
        stories = tuple([(board, story.kept_value()) for board, story in self.stories.items()])
        notices = (pairs_of(self.known_ids), pairs_of(self.shelf), tuple(self.hidden), places, pairs_of(self.marks))
        boards = (pairs_of(self.counts), stories)
        queues = (rows_of(self.queues), rows_of(self.given), rows_of(self.uncleared))
        letters = (pairs_of(self.letters), pairs_of(self.submissions), self.desk.kept_value(), rows_of(self.notes))
        return (self.number, notices, boards, queues, letters, pairs_of(self.ever), tuple(self.posts))

    def put_value(self, value):
        """Puts such a value of tables of the same site in place."""
        self.number, notices, boards, queues, letters, ever, posts = value
        self.put_notices(notices)
        self.put_boards(boards)
        self.put_queues(queues)
        self.put_letters(letters)
        self.ever = table_of(ever)
        self.posts = list(posts)

    def put_notices(self, notices):
        """Puts the part of the value in place that tells of notices."""
        ids, shelf, hidden, places, marks = notices
        self.known_ids = table_of(ids)
        self.shelf = table_of(shelf)
        self.hidden = {id: True for id in hidden}
        self.places = {id: table_of(numbers) for id, numbers in places}
        self.marks = table_of(marks)

    def put_boards(self, boards):
        """Puts the part of the value in place that tells of boards."""
        counts, stories = boards
        self.counts = table_of(counts)
        self.stories = {}
        for board, value in stories:
            story = Story(STORY_LIMIT)
            story.put_value(value)
            self.stories[board] = story

    def put_queues(self, queues):
        """Puts the part of the value in place that tells of neighbours."""
        rows, given, uncleared = queues
        self.queues = table_of_rows(rows)
        self.given = table_of_rows(given)
        self.uncleared = table_of_rows(uncleared)

    def put_letters(self, letters):
        """Puts the part of the value in place that tells of letters."""
        told, submissions, desk, notes = letters
        self.letters = table_of(told)
        self.submissions = table_of(submissions)
        self.desk.put_value(desk)
        self.notes = table_of_rows(notes)
