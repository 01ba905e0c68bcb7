import unittest

from criermoot.letters import copy_to, note_to, submission
from criermoot.phrases import read_word
from tests.bookcase import BOOK
from tests.samples import notice

# The steward of boards town.sale* is ann@mill, of others town.* bob@hill, and of others *.x cid@hill.
THREE = ("a.x", "town.fish", "town.sale")


class SubmissionTest(unittest.TestCase):
    def check(self, told, **parts):
        self.assertEqual(submission(BOOK, notice(**parts)), told)

    def test_no_seals(self):
        whole = notice(boards=THREE)
        told = ("letter", "s:5@mill:0:0", "cid@hill", ("submit", whole, "cid@hill", ()))
        self.check(told, boards=THREE)
        whole = notice(boards=THREE[::-1])
        self.check(("letter", "s:5@mill:0:0", "ann@mill", ("submit", whole, "ann@mill", ())), boards=THREE[::-1])

    def test_some_seals(self):
        for seals, goal in ((("cid@hill",), "bob@hill"), (("bob@hill",), "cid@hill"), (("cid@hill", "bob@hill"), "ann@mill"),
                            (("ann@mill", "bob@hill"), "cid@hill"), (("eve@quay", "cid@hill"), "bob@hill")):
            whole = notice(boards=THREE, seals=seals)
            told = ("letter", f"s:5@mill:{len(seals)}:0", goal, ("submit", whole, goal, ()))
            self.check(told, boards=THREE, seals=seals)

    def test_all_seals(self):
        self.check(None, boards=THREE, seals=("cid@hill", "bob@hill", "ann@mill"))
        self.check(None, boards=THREE, seals=("eve@quay", "ann@mill", "bob@hill", "cid@hill"))

    def test_boards_that_are_not_kept(self):
        self.check(None, boards=("a",))
        whole = notice(boards=("a", "b.x"))
        self.check(("letter", "s:5@mill:0:0", "cid@hill", ("submit", whole, "cid@hill", ())), boards=("a", "b.x"))

    def test_a_steward_of_several_boards(self):
        self.check(None, boards=("town.fish", "town.corn"), seals=("bob@hill",))

    def test_kinds(self):
        self.check(None, kind=("strike", ("a", 1)))
        self.check(None, boards=THREE, kind=("strike", ("a", 1)))
        whole = notice(kind=("replace", ("a", 1)))
        told = ("letter", "s:5@mill:0:0", "bob@hill", ("submit", whole, "bob@hill", ()))
        self.check(told, kind=("replace", ("a", 1)))


class LetterTest(unittest.TestCase):
    def test_notes(self):
        for verdict in (("out",), ("refused", "fish"), ("refused", "nowhere")):
            told = ("letter", "n:5@mill", "ann@mill", ("note", ("mill", 5), verdict))
            self.assertEqual(note_to(notice(), verdict), told)
        self.assertEqual(note_to(notice(id=("quay", 77), author="eve@quay"), ("out",))[1:3], ("n:77@quay", "eve@quay"))

    def test_copies(self):
        told = ("letter", "c:5@mill:all@mill:eve@quay", "eve@quay", ("copy", notice(), "all@mill"))
        self.assertEqual(copy_to(notice(), "all@mill", "eve@quay"), told)

    def test_keys_are_keys(self):
        """The longest keys have no more characters than a word of a talk takes."""
        long = notice(id=("abcdefgh", 999999), author="abcdefgh@abcdefgh")
        key = copy_to(long, "bcdefghi@bcdefghi", "cdefghij@cdefghij")[1]
        self.assertEqual(key, "c:999999@abcdefgh:bcdefghi@bcdefghi:cdefghij@cdefghij")
        self.assertEqual(read_word(f"bring {key}"), ("bring", key))
