"""Notices that fit facts."""

from criermoot.atoms import least_boards
from criermoot.fields import MOST_BOARDS, MOST_SEALS, is_subject
from criermoot.judging import is_from
from criermoot.textcodings import MOST_ROWS

# The number of the notice that is made, and that of the one that it answers, strikes or replaces.
OWN_NUMBER = 1
OTHER_NUMBER = 2

# The size of three texts without rows: four headings, three delimiters ahead of them, and one behind.
SIZE_OF_THREE = 8


def pattern_of(test):
    """The pattern of a test of boards."""
    return test[1]


def of_word(tests, word):
    """Those of the basic tests that begin with this word."""
    return [test for test in tests if test[0] == word]


def free_name(taken):
    """A name that is none of those that are taken."""
    number = 0
    while f"n{number}" in taken:
        number += 1
    return f"n{number}"


def name_for(told, barred):
    """A name that is all of those told, where * stands for any; if all are, one that is none of the barred ones."""
    names = [name for name in told if name != "*"]
    return names[0] if names else free_name(barred)


def author_for(held, failed):
    """An author for whom these tests hold and those fail, None if there is none."""
    told = of_word(held, "from")
    barred = of_word(failed, "from")
    # A name that no test has is let by the fewest of them.
    person = name_for([test[1] for test in told], [test[1] for test in barred])
    place = name_for([test[2] for test in told], [test[2] for test in barred])
    author = f"{person}@{place}"
    if not all([is_from(test[1], test[2], author) for test in told]):
        return None
    return None if any([is_from(test[1], test[2], author) for test in barred]) else author


def kind_for(held, place):
    """The kind of which these tests hold, and no others of the kind; None if there is none."""
    words = [test[0] for test in held if test[0] in ("strike", "replace")]
    if len(words) > 1:
        return None
    return (words[0], (place, OTHER_NUMBER)) if words else ("post",)


def size_for(held, failed):
    """A size for which these tests hold and those fail, None if there is none."""
    least = max([test[1] for test in of_word(held, "over")], default=0) + 1
    most = min([test[1] for test in of_word(failed, "over")], default=least)
    return least if least <= most else None


def text_of(many):
    """A text with so many rows."""
    return ("text", "plain", ("",) * many)


def body_for(size):
    """A body of this size."""
    rows = size - 1
    if rows <= MOST_ROWS:
        return text_of(rows)
    rows = size - SIZE_OF_THREE
    return ("parts", (text_of(min(rows, MOST_ROWS)), text_of(min(max(rows - MOST_ROWS, 0), MOST_ROWS)),
                      text_of(max(rows - 2 * MOST_ROWS, 0))))


class BoardFinder:
    """Finds boards that some patterns let, and others do not."""

    def __init__(self, tests):
        self.bits = {}
        for number, test in enumerate(of_word(tests, "board")):
            self.bits[pattern_of(test)] = 1 << number
        self.atoms = []
        for seen, board in least_boards(tuple(self.bits), False).items():
            self.atoms.append((self.bits_of([name for name, bit in zip(self.bits, seen) if bit == 1]), board))

    def bits_of(self, patterns):
        """The bits of some of the patterns, in one number."""
        found = 0
        for pattern in patterns:
            found = found | self.bits[pattern]
        return found

    def single_boards(self, wanted, barred):
        """For each choice of the wanted patterns that lets a board, and none of the barred, such a board."""
        found = {}
        for bits, board in self.atoms:
            if bits & barred == 0 and bits & wanted not in found:
                found[bits & wanted] = board
        return found

    def boards_for(self, held, failed):
        """Boards of a notice for which these tests of boards hold and those fail, None if there are none."""
        wanted = self.bits_of([pattern_of(test) for test in held])
        barred = self.bits_of([pattern_of(test) for test in failed])
        singles = self.single_boards(wanted, barred)
        found = {bits: (board,) for bits, board in singles.items()}
        for _ in range(MOST_BOARDS - 1):
            if wanted not in found:
                found = joined_boards(found, singles)
        return found.get(wanted)


def joined_boards(found, singles):
    """Choices of patterns with boards that they let, and what comes of them by a further board."""
    told = {bits: boards for bits, boards in found.items()}
    for bits, boards in found.items():
        for single, board in singles.items():
            if bits | single not in told:
                told[bits | single] = boards + (board,)
    return told


def notice_for(held, failed, finder):
    """A notice for which these basic tests hold and those fail, None if there is none."""
    if ("any",) in failed or any([test in failed for test in held]):
        return None
    author = author_for(held, failed)
    size = size_for(held, failed)
    boards = finder.boards_for(of_word(held, "board"), of_word(failed, "board"))
    seals = tuple([test[1] for test in of_word(held, "sealed")])
    subject = " ".join([test[1] for test in of_word(held, "word")])
    if author is None or size is None or boards is None or len(seals) > MOST_SEALS or not is_subject(subject):
        return None
    place = author.partition("@")[2]
    kind = kind_for(held, place)
    if kind is None:
        return None
    refs = ((place, OTHER_NUMBER),) if ("answer",) in held else ()
    return ("notice", (place, OWN_NUMBER), author, 0, boards, subject, refs, kind, seals, body_for(size))


def notice_fitting(facts, finder):
    """A notice that fits facts whose patterns the finder has, None if there is none."""
    # What stands twice among the facts is one thing that is wanted of the notice.
    held = {test: True for test, truth in facts if truth == 1}
    failed = {test: True for test, truth in facts if truth == 0}
    return notice_for(list(held), list(failed), finder)
