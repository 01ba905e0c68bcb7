"""The names and arguments of the interface, and what holds of all values."""

import importlib
import inspect
import unittest

from criermoot import (
    allreach, apart, atoms, blocks, bodies, books, cases, codings, comparing, feeds, globs, headrows, journal, judging,
    leaning, names, notices, parting, patterns, phrases, reach, rights, rulereading, rulewriting, ways)
from criermoot.giver import Giver
from criermoot.ledger import Ledger
from criermoot.taker import Taker
from tests.bookcase import BOOK, POLICY
from tests.samples import TEXT, notice

FUNCTIONS = {
    "names": ("is_name(text)", "is_address(text)", "is_board(text)", "id_text(id)", "id_of(text)",
              "split_address(address)", "words_of(row)"),
    "marks": ("mark_of(rows)",),
    "headrows": ("fold(text, width)", "unfold(rows)"),
    "codings": ("coded(part, width)", "decoded(word, coding, rows)"),
    "bodies": ("body_rows(body, width)", "read_body(rows)"),
    "notices": ("is_notice(notice)", "write_notice(notice, width=60)", "read_notice(rows)", "size_of(notice)"),
    "globs": ("standing(glob, beginning)", "follows(glob, standing, character)", "fits(glob, board)"),
    "patterns": ("read_pattern(text)", "write_pattern(items)", "opposite(pattern)", "lets(pattern, board)",
                 "sight(patterns, boards)"),
    "parting": ("compared_patterns(pattern, other)", "judge_spots(pattern, other, spots)"),
    "atoms": ("atoms(patterns)",),
    "leaning": ("needless(pattern)", "leaned(pattern)"),
    "books": ("wrong_part(book)", "site_of(book, name)", "feed_of(book, giver, taker)", "neighbours(book, name)",
              "carries(book, name, boards)", "steward_of(book, board)", "needed_seals(book, boards)",
              "policy_of(book, address)"),
    "feeds": ("passes(feed, boards, size, hops)",),
    "reach": ("reach(book, kind)", "hops_of(book, kind)"),
    "ways": ("least_way(book, kind, site)", "judge_way(book, kind, site, way)", "judge_labels(book, kind, labels)"),
    "apart": ("spare(book, kind, site)", "judge_spare(book, kind, site, paper)"),
    "allreach": ("table_of(book)", "looked_up(book, table, kind)"),
    "rulereading": ("read_policy(rows)",),
    "rulewriting": ("write_policy(policy)", "write_test(test)"),
    "judging": ("holds(test, notice)", "verdict(policy, notice)"),
    "cases": ("possible(facts)", "comes_to(policy, facts)", "judge_tree(policy, other, tree)"),
    "comparing": ("compared_policies(policy, other)", "dead_rules(policy)", "without_dead(policy)"),
    "blocks": ("value_text(value)", "value_of(text)", "pieces(value)", "deed_blocks(generation, deed, value)"),
    "journal": ("content(disk)", "added(disk, value)", "renewed(disk, values)", "written(disk, writes, count, torn=0)"),
    "phrases": ("read_word(word)", "write_word(parts)", "stuffed(row)", "unstuffed(word)"),
    "rights": ("has_right(book, notice, other)", "hidden(book, notices)"),
    "views": ("shown_of(book, site, notices, clock, board)",),
    "routes": ("distance(book, site, other)", "next_site(book, here, goal)"),
    "letters": ("submission(book, notice)", "note_to(notice, verdict)", "copy_to(notice, list_address, member)"),
    "stewards": ("decided(book, letter, clock, verdict=None)", "plain_end(book, notice, hands=())"),
    "lists": ("members_of(book, address)", "lists_for(book, site, boards)"),
    "world": ("depth(book)",),
    "threads": ("threads_of(notices)", "walk(threads)"),
    "ranges": ("read_marks(text)", "write_marks(marks)", "joined_marks(marks, other)", "marks_without(marks, other)",
               "marked(marks, number)", "next_new(marks, number)"),
    "search": ("fits_query(query, notice)",),
    "memory": ("senders_to(book, site)", "least_memory(book, site)", "enough(book)"),
    "comeback": ("comeback(book, site)",),
    "why": ("why(book, posts, clock, site, board, id)", "judge_why(book, posts, clock, site, board, id, paper)"),
}
CLASSES = (
    ("ledger", "Ledger", ("__init__(self, disk=((), ()))", "add(self, value)", "renew(self, values)", "trip(self, count, torn)",
                          "contents(self)", "trial(self)", "tried(self, value, count, torn=0)"), ("disk",)),
    ("giver", "Giver", ("__init__(self, giver, taker, items, clears=(), window=4)", "next_word(self)", "hear(self, word)",
                        "open_items(self)", "resume(self, state)"), ("done", "state")),
    ("taker", "Taker", ("__init__(self, giver, taker)", "hear(self, word, known, kept, clock, window)", "resume(self, state)"),
     ("done", "state")),
    ("views", "View", ("__init__(self, book, site)", "take(self, notice)", "shown(self, board, *, clock)"), ()),
    ("lists", "ListDesk", ("__init__(self, book, site)", "take(self, notice)", "hear(self, letter)", "box(self, address)"), ()),
    ("sites", "Site", (
        "__init__(self, book, name)", "woken(book, name, disk, clock)",
        "post(self, clock, person, boards, subject, refs, kind, body)", "take(self, clock, hops, notice)",
        "near(self, clock, id, hops)", "keep(self, clock, neighbour, key, letter)", "cleared(self, neighbour, key)",
        "settle(self, clock, neighbour, key, result, hops)", "decide(self, clock, address, id, verdict)", "tick(self, clock)",
        "items_for(self, neighbour)", "clears_for(self, neighbour)", "known(self)", "kept_from(self, neighbour)",
        "shown(self, clock, board)", "notice(self, id)", "box(self, address)", "told(self, address)", "held(self, address)",
        "since(self, board, stamp)", "taken(self)", "twice(self)", "posted(self)", "renew(self)"), ()),
    ("world", "World", (
        "__init__(self, book)", "do(self, act)", "play(self, acts)", "clock(self, site)", "is_up(self, site)", "is_whole(self, a, b)",
        "underway(self, giver, taker)", "taken(self, site)", "twice(self)", "posted(self)", "shown(self, site, board)",
        "box(self, address)", "told(self, address)", "held(self, address)", "since(self, site, board, stamp)",
        "bodies(self, giver, taker, key)", "cuts(self, giver, taker, key)", "rests(self)"), ("time",)),
    ("plainworld", "PlainWorld", ("__init__(self, book, posts)", "taken(self, site)", "shown(self, site, board, clock)",
                                  "box(self, address)"), ()),
    ("threads", "Threads", ("__init__(self)", "put(self, notice)", "drop(self, id)", "whole(self)"), ()),
    ("stories", "Story", ("__init__(self, limit)", "new(self, number, id)", "gone(self, number)", "since(self, stamp)", "pairs(self)"),
     ("last",)),
    ("stories", "Desk", ("__init__(self)", "hear(self, answer)"), ("stamp", "view")),
    ("reader", "Reader", ("__init__(self)", "new(self, view)", "read(self, id)", "meet(self, other)", "ids(self)"), ()),
    ("search", "Index", ("__init__(self)", "put(self, notice)", "drop(self, id)", "found(self, query)"), ()),
)
FACTS = ((("over", 60), 1), (("word", "fish"), 1), (("answer",), 1), (("board", "town.*"), 1), (("from", "*", "mill"), 0))
ITEM = ("notice", "5@mill", 1, 12, ("a", ".b"))
KIND = ("kind", "hill", ("town.fish",), 5)
DISK = journal.written(((), ()), journal.added(((), ()), ("a", None)), 9)


def is_value(told):
    """Whether this is made of tuples, integers, strings and None only."""
    if type(told) is tuple:
        return all(is_value(part) for part in told)
    return told is None or type(told) in (int, str)


class InterfaceTest(unittest.TestCase):
    def test_names_and_arguments(self):
        for module, told in FUNCTIONS.items():
            for one in told:
                name = one.partition("(")[0]
                function = getattr(importlib.import_module("criermoot." + module), name)
                self.assertTrue(inspect.isfunction(function))
                self.assertEqual(function.__module__, "criermoot." + module)
                self.assertEqual(name + str(inspect.signature(function)), one)

    def test_values(self):
        post = notice()
        strike = notice(id=("mill", 9), kind=("strike", post[1]))
        rows = notices.write_notice(post)
        asked = (
            lambda: names.id_of("5@mill"), lambda: names.split_address("ann@mill"), lambda: names.words_of("a b"),
            lambda: headrows.fold("a b", 20), lambda: codings.coded(("data", "pairs", (1,)), 20),
            lambda: codings.decoded("text", "quoted", ("a",)), lambda: bodies.body_rows(("parts", (TEXT,)), 20),
            lambda: bodies.read_body(("Part: parts 0", "--0", "Part: data quads", "00", "--0--")),
            lambda: notices.read_notice(rows), lambda: notices.write_notice(post), lambda: notices.size_of(post),
            lambda: globs.standing("a*", "a"), lambda: globs.follows("a*", (1, 2), "b"),
            lambda: patterns.read_pattern("a,!b"), lambda: patterns.sight(("a", "b"), ("a",)),
            lambda: parting.compared_patterns("a,a", "a"), lambda: parting.compared_patterns("a", "b"),
            lambda: atoms.atoms(("a", "b")), lambda: leaning.needless("a,a"), lambda: books.wrong_part(BOOK),
            lambda: books.neighbours(BOOK, "hill"), lambda: books.site_of(BOOK, "hill"),
            lambda: books.needed_seals(BOOK, ("town.fish", "town.sale")), lambda: books.policy_of(BOOK, "ann@mill"),
            lambda: reach.reach(BOOK, KIND), lambda: reach.hops_of(BOOK, KIND), lambda: ways.least_way(BOOK, KIND, "mill"),
            lambda: apart.spare(BOOK, KIND, "mill"), lambda: allreach.table_of(BOOK),
            lambda: allreach.looked_up(BOOK, allreach.table_of(BOOK), KIND), lambda: rulewriting.write_policy(POLICY),
            lambda: rulereading.read_policy(rulewriting.write_policy(POLICY)), lambda: cases.possible(FACTS),
            lambda: cases.comes_to(POLICY, FACTS), lambda: comparing.compared_policies(POLICY, POLICY),
            lambda: comparing.compared_policies(POLICY, ()), lambda: comparing.dead_rules(POLICY * 2),
            lambda: comparing.without_dead(POLICY * 2), lambda: blocks.value_of("(1 'a' N ())"), lambda: blocks.pieces((1, 2)),
            lambda: blocks.deed_blocks(1, 2, "x" * 50), lambda: journal.content(DISK), lambda: journal.added(DISK, 3),
            lambda: journal.renewed(DISK, (3,)), lambda: journal.written(DISK, journal.added(DISK, 3), 1, 1),
            lambda: phrases.read_word("offer 5@mill 1 12"), lambda: rights.hidden(BOOK, (post, strike)))
        first = [ask() for ask in asked]
        self.assertTrue(all(is_value(told) for told in first))
        for _ in range(2):
            self.assertEqual([ask() for ask in reversed(asked)][::-1], first)
        self.assertEqual(post, notice())

    def test_bools(self):
        """What tells whether something is so tells True or False themselves."""
        strike = notice(id=("mill", 9), kind=("strike", ("mill", 5)))
        asked = (
            lambda one: ways.judge_way(BOOK, KIND, "mill", ("hill", "mill") if one else ()),
            lambda one: ways.judge_labels(BOOK, KIND, (0, 1, None) if one else (0, None, None)),
            lambda one: apart.judge_spare(BOOK, KIND, "mill", ("spare", (("hill", "mill"),), (("hill", "mill"),) * one)),
            lambda one: cases.judge_tree((), (), ("same", ("pass",) if one else ("hold",))),
            lambda one: rights.has_right(BOOK, strike, notice(id=("mill", 5 if one else 6))),
            lambda one: feeds.passes(BOOK[5][0], ("town.fish",), 5, 0 if one else 9),
            lambda one: judging.holds(("over", 1 if one else 60), notice()))
        for ask in asked:
            for one in (1, 0, 1):
                self.assertIs(ask(one), one == 1)

    def test_classes(self):
        for module, name, methods, properties in CLASSES:
            told = getattr(importlib.import_module("criermoot." + module), name)
            self.assertEqual(told.__module__, "criermoot." + module)
            for one in methods:
                function = vars(told)[one.partition("(")[0]]
                if isinstance(function, classmethod):
                    function = function.__get__(None, told)
                self.assertEqual(function.__name__ + str(inspect.signature(function)), one)
            for one in properties:
                self.assertIsInstance(vars(told)[one], property)
                self.assertIs(vars(told)[one].fset is not None, one == "disk")

    def test_objects(self):
        """What objects tell are values that stay as they are, and equal objects tell equal ones."""
        def told():
            ledger, giver, taker = Ledger(DISK), Giver("hill", "mill", (ITEM,), ("x",)), Taker("hill", "mill")
            found = [ledger.disk, ledger.contents(), giver.state, taker.state, giver.open_items()]
            for word in ("open hill mill", "offer 5@mill 1 12"):
                assert giver.next_word() == word
                found.append(taker.hear(word, {}, (), 0, 50))
                giver.hear(found[-1][0][0])
                found += [giver.state, taker.state, giver.open_items()]
            ledger.add(giver.state)
            return found + [ledger.disk, ledger.contents(), ledger.tried(taker.state, 99)]

        first = told()
        kept = repr(first)
        self.assertTrue(all(is_value(one) for one in first))
        self.assertEqual(told(), first)
        self.assertEqual(repr(first), kept)
