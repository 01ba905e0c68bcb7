import itertools
import random
import unittest

from criermoot.cases import comes_to, judge_tree, possible
from criermoot.judging import holds
from criermoot.notices import is_notice, size_of
from tests import plainrules, randomrules
from tests.test_parting import SPOTS_600

A, B, C = ("answer",), ("word", "b"), ("over", 3)
PASS, HOLD, FISH = ("pass",), ("hold",), ("refuse", "fish")


def board(pattern, truth=1):
    return (("board", pattern), truth)


def from_(person, site, truth=1):
    return (("from", person, site), truth)


class PossibleTest(unittest.TestCase):
    def fits(self, *facts):
        told = possible(facts)
        self.assertIsNotNone(told, facts)
        self.assertIs(is_notice(told), True, told)
        for test, truth in facts:
            self.assertIs(holds(test, told), truth == 1, (test, told))
        return told

    def none(self, *facts):
        self.assertIsNone(possible(facts), facts)
        self.assertIsNone(possible(facts[::-1]), facts)

    def test_no_facts(self):
        self.fits()

    def test_both_truths(self):
        for test in randomrules.BASICS:
            self.none((test, 1), (test, 0))
            self.none((test, 0), (B, 1), (test, 1))

    def test_any(self):
        self.fits((("any",), 1))
        self.none((("any",), 0))

    def test_lone_words(self):
        for truths in itertools.product((1, 0), repeat=3):
            facts = tuple(zip((("answer",), ("strike",), ("replace",)), truths))
            if truths[1:] == (1, 1):
                self.none(*facts)
            else:
                self.fits(*facts)
        self.none((("strike",), 1), (("replace",), 1))

    def test_over(self):
        for low in range(61):
            told = self.fits((("over", low), 1))
            self.assertGreater(size_of(told), low)
            for high in range(61):
                facts = ((("over", low), 1), (("over", high), 0))
                if high > low:
                    self.fits(*facts)
                else:
                    self.none(*facts)
        for high in range(1, 61):
            self.fits((("over", high), 0))
        self.none((("over", 0), 0))
        self.fits((("over", 3), 1), (("over", 7), 1), (("over", 8), 0), (("over", 60), 0))
        self.none((("over", 3), 1), (("over", 8), 1), (("over", 8), 0), (("over", 60), 0))
        self.fits((("over", 21), 1), (("over", 22), 0))

    def test_seals(self):
        seals = tuple((("sealed", f"s{number}@hill"), 1) for number in range(9))
        self.assertEqual(len(self.fits(*seals[:8])[8]), 8)
        self.none(*seals)
        self.fits(*seals[:8] + seals[:4])
        self.fits(*seals[:8] + ((("sealed", "s8@hill"), 0), (("sealed", "s9@hill"), 0)))

    def test_words(self):
        names = tuple(f"fishfis{letter}" for letter in "abcdefghijkl")
        self.fits(*((("word", name), 1) for name in names))
        self.fits(*((("word", name), 0) for name in names))
        self.fits((("word", "a"), 1), (("word", "ab"), 0), (("word", "b"), 0), (("word", "ab1"), 1))
        self.fits((("word", "a"), 1), (("word", "a"), 1))

    def test_authors(self):
        self.fits(from_("*", "*"))
        self.none(from_("*", "*", 0))
        self.fits(from_("ann", "*"), from_("*", "mill"))
        self.fits(from_("ann", "*"), from_("ann", "mill"))
        self.none(from_("ann", "*"), from_("bob", "*"))
        self.none(from_("*", "hill"), from_("*", "mill"))
        self.none(from_("ann", "mill"), from_("*", "hill"))
        self.none(from_("ann", "*"), from_("*", "mill"), from_("ann", "mill", 0))
        self.none(from_("ann", "mill"), from_("ann", "*", 0))
        self.none(from_("ann", "mill"), from_("*", "mill", 0))
        self.fits(from_("ann", "mill"), from_("mill", "ann", 0), from_("ann", "hill", 0), from_("bob", "*", 0))
        self.fits(from_("ann", "*"), from_("ann", "mill", 0), from_("ann", "n0", 0), from_("ann", "n1", 0))
        self.none(from_("ann", "*"), from_("*", "*", 0))
        self.fits(from_("n0", "*", 0), from_("n1", "*", 0), from_("*", "n0", 0), from_("n2", "n1", 0))
        self.fits(from_("*", "n0"), from_("n0", "*", 0), from_("n1", "n0", 0))

    def test_boards(self):
        self.fits(board("a"), board("b"), board("c"))
        self.none(board("a"), board("b"), board("c"), board("d"))
        self.fits(board("a*"), board("*b"), board("c"), board("a?*"), board("*.*"))
        self.none(board("a"), board("a*", 0))
        self.fits(board("a", 0), board("a*"))
        self.none(board("*", 0))
        self.none(board("!*"))
        self.fits(board("!*", 0))
        self.none(board("1*"))
        self.none(board("*.*", 0), board("?*.?*"))
        self.none(board("a*", 0), board("*,!a*", 0))
        self.fits(board("a*"), board("*,!a*"))
        self.fits(board("*a*"), board("*b*"), board("*c*"), board("*d*"))
        self.none(board("a"), board("b"), board("c"), board("c*"), board("cc"))
        self.fits(board("a,b"), board("b,c"), board("c,d"), board("d,e"), board("e,a"), board("b", 0))
        self.none(board("a,b"), board("c,d"), board("e,f"), board("g,h"))
        self.fits(board("a,b"), board("c,d"), board("e,f"), board("g,h,a"))
        self.fits(board("a,b"), board("c,d"), board("e,f"), board("g,h,a"), board("b", 0), board("h", 0))
        self.none(board("a,b"), board("c,d"), board("e,f"), board("g,h,a"), board("a", 0))

    def test_many_spots(self):
        """Patterns with as many spots as may be passed, and with a few more, raise nothing."""
        self.fits(board(SPOTS_600))
        self.fits(board(SPOTS_600), board("*.c*"))

    def test_all_together(self):
        self.fits((("strike",), 1), (("answer",), 1), from_("ann", "mill"), (("over", 60), 1), (("sealed", "a@b"), 1),
                  (("sealed", "b@a"), 0), (("word", "fish"), 1), (("word", "fishy"), 0), board("a*"), board("a", 0),
                  (("replace",), 0), (("any",), 1))
        # One more that does not fit, of each sort.
        rest = ((("answer",), 1), from_("ann", "*"), board("a"))
        for facts in (((("any",), 0),), ((("over", 0), 0),), (board("*", 0),), (from_("*", "*", 0),),
                      ((("strike",), 1), (("replace",), 1)), ((("over", 5), 1), (("over", 4), 0))):
            self.none(*rest + facts)

    def test_by_the_meaning(self):
        chance = random.Random(32)
        many = {True: 0, False: 0}
        for _ in range(1500):
            facts = randomrules.random_facts(chance, most=7)
            told = plainrules.is_possible(facts)
            many[told] += 1
            if told:
                self.fits(*facts)
            else:
                self.none(*facts)
        self.assertGreater(min(many.values()), 300)


class ComesToTest(unittest.TestCase):
    def check(self, test, facts, told):
        """A test is asked by whether its rule, and a rule of its opposite, come to a verdict."""
        verdicts = {1: (FISH, HOLD), 0: (HOLD, FISH), None: (None, None)}[told]
        self.assertEqual(comes_to(((test, FISH), (("any",), HOLD)), facts), verdicts[0])
        self.assertEqual(comes_to(((("not", test), FISH), (("any",), HOLD)), facts), verdicts[1])

    def test_basic_tests(self):
        for test in randomrules.BASICS[1:]:
            self.check(test, (), None)
            self.check(test, ((test, 1),), 1)
            self.check(test, ((test, 0),), 0)
            self.check(test, ((test, 1), (test, 0)), 1)
            self.check(test, ((test, 0), (test, 1)), 1)
            self.check(test, ((test, 0), (test, 1), (test, 0)), 1)
            self.check(test, ((test, 0), (test, 0)), 0)
        # What a fact makes of another test is not asked.
        self.check(("over", 3), ((("over", 4), 1),), None)
        self.check(("board", "a"), ((("board", "*"), 0),), None)
        self.check(("from", "*", "*"), (), None)

    def test_any(self):
        for facts in ((), ((("any",), 0),), ((("any",), 1),), ((("any",), 1), (("any",), 0))):
            self.check(("any",), facts, 1)
            self.check(("not", ("any",)), facts, 0)

    def test_joins(self):
        for one, two in itertools.product((1, 0, None), repeat=2):
            facts = tuple((test, truth) for test, truth in ((A, one), (B, two)) if truth is not None)
            both = 0 if 0 in (one, two) else None if None in (one, two) else 1
            either = 1 if 1 in (one, two) else None if None in (one, two) else 0
            self.check(("and", A, B), facts, both)
            self.check(("or", A, B), facts, either)
            self.check(("not", A), facts, None if one is None else 1 - one)
            self.check(("and", ("not", ("not", A)), ("or", B, B)), facts, both)

    def test_open_tests_stay_open(self):
        self.check(("or", A, ("not", A)), (), None)
        self.check(("and", A, ("not", A)), (), None)

    def test_rules(self):
        self.assertEqual(comes_to((), ()), PASS)
        policy = ((A, FISH), (B, HOLD), (C, FISH))
        for a, b, c in itertools.product((1, 0, None), repeat=3):
            facts = tuple((test, truth) for test, truth in ((A, a), (B, b), (C, c)) if truth is not None)
            told = None
            for truth, verdict in ((a, FISH), (b, HOLD), (c, FISH), (1, PASS)):
                if truth != 0:
                    told = verdict if truth == 1 else None
                    break
            self.assertEqual(comes_to(policy, facts), told)

    def test_by_the_meaning(self):
        chance = random.Random(33)
        for _ in range(1000):
            policy = randomrules.random_policy(chance)
            facts = randomrules.random_facts(chance)
            self.assertEqual(comes_to(policy, facts), plainrules.comes_to(policy, facts))


class JudgeTreeTest(unittest.TestCase):
    one = ((("and", A, B), HOLD), (A, FISH))
    two = ((("not", A), PASS), (B, HOLD), (("any",), FISH))
    tree = ("split", A, ("split", B, ("same", HOLD), ("same", FISH)), ("same", PASS))

    def check(self, tree, told, one=one, two=two):
        self.assertIs(judge_tree(one, two, tree), told, tree)

    def test_right_trees(self):
        self.check(self.tree, True)
        self.check(("split", B, ("split", A, ("same", HOLD), ("same", PASS)),
                    ("split", A, ("same", FISH), ("same", PASS))), True)
        self.check(("same", PASS), True, one=(), two=())
        self.check(("same", HOLD), True, one=((("any",), HOLD),), two=((("any",), HOLD), (A, FISH)))

    def test_needless_splits(self):
        self.check(("split", A, self.tree, self.tree), False)
        # Facts with both truths are those of no notice, and let a test hold.
        self.check(("split", A, self.tree[2], ("split", A, ("never",), ("same", PASS))), True)
        self.check(("split", A, self.tree[2], ("split", A, ("split", B, ("same", HOLD), ("same", FISH)),
                                               ("same", PASS))), True)
        self.check(("split", A, self.tree[2], ("split", A, ("same", PASS), ("same", PASS))), False)
        tree = self.tree
        for _ in range(9):
            tree = ("split", B, tree, tree)
        self.check(tree, False)

    def test_spoilt_verdicts(self):
        for verdict in (HOLD, FISH, ("refuse", "fishy"), ("send", "a@b"), ("refuse", ""), ("xyz", 1, None), ("refuse", "pass")):
            self.check(self.tree[:3] + (("same", verdict),), False)
        self.check(self.tree[:2] + (("split", B, ("same", FISH), ("same", FISH)), ("same", PASS)), False)
        self.check(self.tree[:2] + (("split", B, ("same", HOLD), ("same", HOLD)), ("same", PASS)), False)
        self.check(("same", PASS), False)

    def test_policies_that_part(self):
        for two in ((), self.two[:2], self.two[:1], self.two[1:], ((A, HOLD),)):
            self.check(self.tree, False, two=two)
            self.check(self.tree, False, one=two, two=self.one)

    def test_tests_of_splits(self):
        for test in (C, ("word", "a"), ("any",), ("answer", "x"), ("not", A), ("and", A, B), ("xyz",), ("", None, 1), ("over", 4)):
            one = self.one
            self.check(("split", test, self.tree, self.tree), test == ("any",), one=one)
        # It is enough that it stands in one of the policies.
        self.check(("split", ("any",), ("same", PASS), ("never",)), False, one=(), two=())
        self.check(("split", C, ("same", PASS), ("same", PASS)), True, one=((C, PASS),), two=())
        self.check(("split", C, ("same", PASS), ("same", PASS)), True, one=(), two=((("not", C), PASS),))
        self.check(("split", C, ("same", PASS), ("same", PASS)), False, one=((B, PASS),), two=((B, PASS),))
        self.check(("split", ("not", C), ("same", PASS), ("same", PASS)), False, one=((("not", C), PASS),), two=())

    def test_exchanged_branches(self):
        self.check(self.tree[:2] + (self.tree[3], self.tree[2]), False)
        self.check(self.tree[:2] + (("split", B, ("same", FISH), ("same", HOLD)), ("same", PASS)), False)

    def test_never(self):
        self.check(("never",), False)
        self.check(("never",), False, one=(), two=())
        self.check(self.tree[:3] + (("never",),), False)
        self.check(self.tree[:2] + (("split", B, ("never",), ("same", FISH)), ("same", PASS)), False)
        one = ((("and", ("over", 4), ("not", C)), HOLD),)
        right = ("split", C, ("same", PASS), ("split", ("over", 4), ("never",), ("same", PASS)))
        self.check(right, True, one=one, two=())
        self.check(right[:3] + (("split", ("over", 4), ("same", PASS), ("never",)),), False, one=one, two=())
        self.check(right[:3] + (("split", ("over", 4), ("same", HOLD), ("same", PASS)),), False, one=one, two=())
        self.check(("split", ("over", 4), ("split", C, ("same", PASS), ("never",)), ("same", PASS)), True, one=one, two=())

    def test_first_words(self):
        for word in ("", "Same", "splits", "part", "x" * 700):
            for tree in ((word,), (word, A, self.tree, self.tree), (word, PASS), (word, None, 1), (word, ((),))):
                self.check(tree, False)
                self.check(self.tree[:3] + (tree,), False)
                self.check(("split", A, tree, ("same", PASS)), False)
                # Nor where no notice fits the facts.
                self.check(("split", A, self.tree[2], ("split", A, tree, ("same", PASS))), False)
                self.check(("split", A, self.tree[2], ("split", A, ("never",), tree)), False)

    def test_deep_trees(self):
        """Twelve splits on a way down."""
        tests = tuple(("word", f"w{number}") for number in range(10))
        one = tuple((test, PASS) for test in tests)
        tree = ("same", PASS)
        for test in tests + tests[:2]:
            tree = ("split", test, tree, tree)
        self.check(tree, True, one=one, two=())
        self.check(tree, False, one=one, two=((tests[0], HOLD),))
