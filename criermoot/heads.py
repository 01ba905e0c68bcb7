"""The heads of a text of a notice."""

from criermoot.errors import BadText
from criermoot.fields import MOST_REFS, are_boards, are_refs, are_seals, is_author, is_date, is_other_id, is_subject
from criermoot.headrows import unfold
from criermoot.names import id_of, id_text
from criermoot.signs import number_of

LONGEST_DATE = 7
LONGEST_MARK = 7


def id_texts(ids):
    """The texts of ids, separated by blanks."""
    return " ".join([id_text(id) for id in ids])


def refs_of(text, own):
    """The refs that are told of the notice with this id, None if they are wrong."""
    words = text.split(" ")
    if len(words) > MOST_REFS:
        return None
    refs = tuple([id_of(word) for word in words])
    return refs if None not in refs and are_refs(refs, own) else None


def head_texts(notice):
    """The heads of a notice that stand ahead of its mark, not folded."""
    heads = [
        f"Id: {id_text(notice[1])}",
        f"From: {notice[2]}",
        f"Date: {notice[3]}",
        "Boards: " + " ".join(notice[4]),
        f"Subject: {notice[5]}",
    ]
    if notice[6]:
        heads.append("Refs: " + id_texts(notice[6]))
    kind = notice[7]
    if kind[0] == "strike":
        heads.append("Strikes: " + id_text(kind[1]))
    if kind[0] == "replace":
        heads.append("Replaces: " + id_text(kind[1]))
    if notice[8]:
        heads.append("Sealed: " + " ".join(notice[8]))
    return heads


class HeadReader:
    """The heads of a text, which are read one after the other."""

    def __init__(self, rows):
        self.rows = rows
        self.at = 0
        self.begun = 0

    def read_value(self, word):
        """The value of the head that begins here, None if it is another one; else goes on behind it."""
        behind = self.at + 1
        while behind < len(self.rows) and self.rows[behind].startswith(" "):
            behind += 1
        head = unfold(self.rows[self.at:behind])
        if not head.startswith(word + ": "):
            return None
        self.begun = self.at
        self.at = behind
        return head[len(word) + 2:]

    def needed_value(self, word):
        """The value of the head that must begin here."""
        value = self.read_value(word)
        if value is None:
            raise BadText(self.at)
        return value

    def keep(self, holds):
        """Tells that something must hold of the value of the last head."""
        if not holds:
            raise BadText(self.begun)

    def read_id(self):
        """The id."""
        id = id_of(self.needed_value("Id"))
        self.keep(id is not None)
        return id

    def read_author(self, own):
        """The author of the notice with this id."""
        author = self.needed_value("From")
        self.keep(is_author(author, own))
        return author

    def read_date(self):
        """The date."""
        date = number_of(self.needed_value("Date"), LONGEST_DATE)
        self.keep(date is not None and is_date(date))
        return date

    def read_boards(self):
        """The boards."""
        boards = tuple(self.needed_value("Boards").split(" "))
        self.keep(are_boards(boards))
        return boards

    def read_subject(self):
        """The subject."""
        subject = self.needed_value("Subject")
        self.keep(is_subject(subject))
        return subject

    def read_refs(self, own):
        """The refs of the notice with this id."""
        text = self.read_value("Refs")
        if text is None:
            return ()
        refs = refs_of(text, own)
        self.keep(refs is not None)
        return refs

    def read_kind(self, own):
        """The kind of the notice with this id."""
        for word, name in (("Strikes", "strike"), ("Replaces", "replace")):
            text = self.read_value(word)
            if text is not None:
                id = id_of(text)
                self.keep(id is not None and is_other_id(id, own))
                return (name, id)
        return ("post",)

    def read_seals(self):
        """The seals."""
        text = self.read_value("Sealed")
        if text is None:
            return ()
        seals = tuple(text.split(" "))
        self.keep(are_seals(seals))
        return seals

    def read_mark(self):
        """The number that is told as the mark."""
        mark = number_of(self.needed_value("Mark"), LONGEST_MARK)
        self.keep(mark is not None)
        return mark

    def read_heads(self):
        """What stands in the notice ahead of its body."""
        id = self.read_id()
        author = self.read_author(id)
        date = self.read_date()
        boards = self.read_boards()
        subject = self.read_subject()
        refs = self.read_refs(id)
        kind = self.read_kind(id)
        return ("notice", id, author, date, boards, subject, refs, kind, self.read_seals())
