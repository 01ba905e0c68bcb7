"""The examples of the document, as they stand there."""

import doctest
import pathlib
import unittest

README = pathlib.Path(__file__).resolve().parent.parent / "README.md"

EXAMPLES = """
>>> from criermoot.headrows import fold
>>> fold("Subject: one two three four", 20)
('Subject: one two', ' three four')
>>> from criermoot.marks import mark_of
>>> mark_of(("",))
927
>>> from criermoot.codings import coded
>>> coded(("data", "runs", (5, 5, 5, 16)), 20)
('3x05 1x10',)
>>> from criermoot.notices import write_notice, size_of
>>> notice = ("notice", ("mill", 5), "ann@mill", 12, ("town.fish", "town.sale"), "Fresh today", (), ("post",), (), ("text", "plain", ("Come soon.", ".")))
>>> size_of(notice)
3
>>> write_notice(notice, 20)[:4]
('Id: 5@mill', 'From: ann@mill', 'Date: 12', 'Boards: town.fish')
>>> from criermoot.patterns import lets, opposite
>>> lets("town.*,!town.fish.*", "town.fish.sale")
False
>>> opposite("town.*,!town.fish")
'*,!town.*,town.fish'
>>> from criermoot.parting import compared_patterns
>>> compared_patterns("a*", "a?*")
('part', 'a')
>>> from criermoot.atoms import atoms
>>> atoms(("a*", "*.b"))
(((0, 0), 'b'), ((0, 1), 'b.b'), ((1, 0), 'a'), ((1, 1), 'a.b'))
>>> from criermoot.rulewriting import write_policy
>>> write_policy(((("and", ("or", ("answer",), ("word", "fish")), ("not", ("from", "*", "mill"))), ("refuse", "fish")),))
('when ( answer or word fish ) and not from *@mill : refuse fish',)
>>> from criermoot.blocks import value_text
>>> value_text((1, "it's", None, ()))
"(1 'it''s' N ())"
>>> from criermoot.journal import added, content, written
>>> disk = written(((), ()), added(((), ()), 7), 4)
>>> content(disk)
(7,)
>>> from criermoot.ranges import read_marks, joined_marks, write_marks
>>> write_marks(joined_marks(read_marks("1-3,7"), read_marks("4,9")))
'1-4,7,9'
>>> from criermoot.world import World
>>> book = ("book", 50, (1, 8), (("site", "hill", 0, 60, 90, "*"), ("site", "mill", 3, 60, 90, "*")), (("hill", "mill"),), (("feed", "hill", "mill", "town.*", 3, 9),), (), ())
>>> world = World(book)
>>> world.do(("post", "ann@hill", ("town.fish",), "Fresh", (), ("post",), ("text", "plain", ("Come soon.",))))
('hill', 1)
>>> world.do(("round",))
True
>>> world.taken("mill")
((('hill', 1), 1),)
>>> world.shown("mill", "town.fish")
((1, ('hill', 1)),)
>>> from criermoot.memory import least_memory
>>> (least_memory(book, "hill"), least_memory(book, "mill"))
(0, 47)
"""


class ExamplesTest(unittest.TestCase):
    def check(self, text, many):
        examples = doctest.DocTestParser().get_doctest(text, {}, "examples", None, 0)
        told = []
        doctest.DocTestRunner(verbose=False).run(examples, out=told.append)
        self.assertEqual(told, [])
        self.assertEqual(len(examples.examples), many)

    def test_examples(self):
        self.check(EXAMPLES, 35)

    def test_examples_of_the_readme(self):
        self.check(README.read_text().split("```")[1], 32)
