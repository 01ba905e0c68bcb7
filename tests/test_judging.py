import itertools
import unittest

from criermoot.judging import holds, verdict
from tests.samples import notice

YES = ("any",)
NO = ("not", ("any",))


class HoldsTest(unittest.TestCase):
    def check(self, test, told, **parts):
        self.assertIs(holds(test, notice(**parts)), told, (test, parts))

    def test_any(self):
        self.check(("any",), True)

    def test_answer(self):
        self.check(("answer",), False)
        self.check(("answer",), True, refs=(("a", 1),))
        self.check(("answer",), False, kind=("strike", ("a", 1)))

    def test_kinds(self):
        for word in ("strike", "replace"):
            for kind in (("post",), ("strike", ("a", 1)), ("replace", ("a", 1))):
                self.check((word,), kind[0] == word, kind=kind)

    def test_board(self):
        self.check(("board", "town.*"), True)
        self.check(("board", "town.sale"), True)
        self.check(("board", "*,!town.*"), False)
        self.check(("board", "*,!town.fish"), True)
        self.check(("board", "sale"), False)
        self.check(("board", "*,!a"), True, boards=("a", "b"))
        self.check(("board", "*,!a"), False, boards=("a",))

    def test_from(self):
        for person, site, told in (("ann", "mill", True), ("*", "mill", True), ("ann", "*", True), ("*", "*", True),
                                   ("bob", "mill", False), ("ann", "hill", False), ("bob", "*", False),
                                   ("*", "hill", False), ("mill", "ann", False), ("an", "mill", False)):
            self.check(("from", person, site), told)

    def test_word(self):
        for subject, told in (("Fresh fish", True), ("FISH!", True), ("--fIsH--", True), ("fishy", False),
                              ("a fish,b", True), ("2fish", False), ("fish2", False), ("f ish", False), ("", False),
                              ("(fish)", True), ("it's fish.", True), ("a_fish_b", True), ("sun-fish", True)):
            self.check(("word", "fish"), told, subject=subject)
        self.check(("word", "x9"), True, subject="X9")
        self.check(("word", "town"), False)

    def test_over(self):
        for rows in range(21):
            for bound in (0, rows - 1, rows, rows + 1, rows + 2, 60):
                if bound >= 0:
                    self.check(("over", bound), rows + 1 > bound, body=("text", "plain", ("x",) * rows))
        body = ("parts", (("text", "plain", ("x",) * 20),) * 3)
        self.check(("over", 60), True, body=body)
        self.check(("over", 2), True, body=("data", "pairs", (0,) * 31))
        self.check(("over", 2), False, body=("data", "pairs", (0,) * 30))

    def test_sealed(self):
        self.check(("sealed", "bob@hill"), False)
        self.check(("sealed", "bob@hill"), True, seals=("bob@hill",))
        self.check(("sealed", "bob@hill"), True, seals=("a@b", "bob@hill"))
        self.check(("sealed", "ann@mill"), False, seals=("bob@hill",))

    def test_other_tests(self):
        for one, two in itertools.product((YES, NO), repeat=2):
            self.check(("and", one, two), one == YES and two == YES)
            self.check(("or", one, two), one == YES or two == YES)
            self.check(("not", ("and", one, two)), one == NO or two == NO)
            self.check(("and", ("not", one), ("or", two, one)), one == NO and two == YES)
        self.check(("not", ("not", YES)), True)
        self.check(NO, False)
        self.check(("and", ("word", "fresh"), ("not", ("word", "fish"))), True)

    def test_bounds(self):
        deep = YES
        for _ in range(14):
            deep = ("not", deep)
        self.check(deep, True)
        self.check(("and", deep[1], YES), False)
        wide = NO
        for _ in range(12):
            wide = ("or", NO, wide)
        self.check(wide, False)
        self.check(("not", wide), True)


class VerdictTest(unittest.TestCase):
    def test_first_rule_that_holds(self):
        one, two, three = ("refuse", "fish"), ("send", "bob@hill"), ("hold",)
        self.assertEqual(verdict((), notice()), ("pass",))
        self.assertEqual(verdict(((NO, one),), notice()), ("pass",))
        self.assertEqual(verdict(((YES, one), (YES, two)), notice()), one)
        self.assertEqual(verdict(((NO, one), (YES, two), (YES, three)), notice()), two)
        self.assertEqual(verdict(((NO, one), (NO, two), (YES, three)), notice()), three)
        self.assertEqual(verdict(((NO, one), (NO, two), (NO, three)), notice()), ("pass",))
        self.assertEqual(verdict(((YES, ("pass",)), (YES, two)), notice()), ("pass",))
        self.assertEqual(verdict(((NO, one),) * 11 + ((YES, three),), notice()), three)

    def test_by_the_notice(self):
        policy = ((("word", "fish"), ("refuse", "fish")), (("over", 2), ("hold",)))
        self.assertEqual(verdict(policy, notice()), ("hold",))
        self.assertEqual(verdict(policy, notice(subject="Fish")), ("refuse", "fish"))
        self.assertEqual(verdict(policy, notice(body=("text", "plain", ("x",)))), ("pass",))
