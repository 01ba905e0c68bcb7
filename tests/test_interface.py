"""The names and arguments of the interface, and what holds of all values."""

import importlib
import inspect
import unittest

from criermoot import atoms, bodies, books, codings, globs, headrows, leaning, names, notices, parting, patterns
from tests.bookcase import BOOK
from tests.samples import TEXT, notice

FUNCTIONS = {
    "names": ("is_name(text)", "is_address(text)", "is_board(text)", "id_text(id)", "id_of(text)",
              "split_address(address)", "words_of(row)"),
    "marks": ("mark_of(rows)",),
    "headrows": ("fold(text, width)", "unfold(rows)"),
    "codings": ("coded(part, width)", "decoded(word, coding, rows)"),
    "bodies": ("body_rows(body, width)", "read_body(rows)"),
    "notices": ("is_notice(notice)", "write_notice(notice, width=60)", "read_notice(rows)", "size_of(notice)"),
    "globs": ("standing(glob, beginning)", "follows(glob, standing, character)", "fits(glob, board)"),
    "patterns": ("read_pattern(text)", "write_pattern(items)", "opposite(pattern)", "lets(pattern, board)",
                 "sight(patterns, boards)"),
    "parting": ("compared_patterns(pattern, other)", "judge_spots(pattern, other, spots)"),
    "atoms": ("atoms(patterns)",),
    "leaning": ("needless(pattern)", "leaned(pattern)"),
    "books": ("wrong_part(book)", "site_of(book, name)", "feed_of(book, giver, taker)", "neighbours(book, name)",
              "carries(book, name, boards)", "steward_of(book, board)", "needed_seals(book, boards)",
              "policy_of(book, address)"),
    "feeds": ("passes(feed, boards, size, hops)",),
    "judging": ("holds(test, notice)", "verdict(policy, notice)"),
}


def is_value(told):
    """Whether this is made of tuples, integers, strings and None only."""
    if type(told) is tuple:
        return all(is_value(part) for part in told)
    return told is None or type(told) in (int, str)


class InterfaceTest(unittest.TestCase):
    def test_names_and_arguments(self):
        for module, told in FUNCTIONS.items():
            for one in told:
                name = one.partition("(")[0]
                function = getattr(importlib.import_module("criermoot." + module), name)
                self.assertTrue(inspect.isfunction(function))
                self.assertEqual(function.__module__, "criermoot." + module)
                self.assertEqual(name + str(inspect.signature(function)), one)

    def test_values(self):
        post = notice()
        rows = notices.write_notice(post)
        asked = (
            lambda: names.id_of("5@mill"), lambda: names.split_address("ann@mill"), lambda: names.words_of("a b"),
            lambda: headrows.fold("a b", 20), lambda: codings.coded(("data", "pairs", (1,)), 20),
            lambda: codings.decoded("text", "quoted", ("a",)), lambda: bodies.body_rows(("parts", (TEXT,)), 20),
            lambda: bodies.read_body(("Part: parts 0", "--0", "Part: data quads", "00", "--0--")),
            lambda: notices.read_notice(rows), lambda: notices.write_notice(post), lambda: notices.size_of(post),
            lambda: globs.standing("a*", "a"), lambda: globs.follows("a*", (1, 2), "b"),
            lambda: patterns.read_pattern("a,!b"), lambda: patterns.sight(("a", "b"), ("a",)),
            lambda: parting.compared_patterns("a,a", "a"), lambda: parting.compared_patterns("a", "b"),
            lambda: atoms.atoms(("a", "b")), lambda: leaning.needless("a,a"), lambda: books.wrong_part(BOOK),
            lambda: books.neighbours(BOOK, "hill"), lambda: books.site_of(BOOK, "hill"),
            lambda: books.needed_seals(BOOK, ("town.fish", "town.sale")), lambda: books.policy_of(BOOK, "ann@mill"))
        first = [ask() for ask in asked]
        self.assertTrue(all(is_value(told) for told in first))
        for _ in range(2):
            self.assertEqual([ask() for ask in reversed(asked)][::-1], first)
        self.assertEqual(post, notice())
