import random
import unittest

from criermoot.cases import judge_tree
from criermoot.comparing import compared_policies, dead_rules, without_dead
from criermoot.judging import verdict
from criermoot.notices import is_notice
from criermoot.rulereading import read_policy
from tests import plainrules, randomrules

FEW = (("any",), ("answer",), ("strike",), ("replace",), ("board", "a*"), ("board", "*,!a*"), ("over", 3), ("over", 5),
       ("from", "ann", "*"), ("from", "*", "mill"), ("from", "bob", "*"))
ALIKE = (
    ((), ()),
    ((), ("when any : pass",)),
    (("when answer : pass",), ()),
    (("when answer : hold",), ("when not not answer : hold",)),
    (("when answer or strike : hold",), ("when strike : hold", "when answer : hold")),
    (("when not ( answer and strike ) : hold",), ("when not answer : hold", "when not strike : hold")),
    (("when strike and replace : hold",), ()),
    (("when over 5 and not over 3 : hold",), ()),
    (("when not over 0 : hold",), ()),
    (("when over 3 or over 5 : hold",), ("when over 3 : hold",)),
    (("when board a*,b : hold",), ("when board b or board a* : hold",)),
    (("when board a and not board a* : hold",), ()),
    (("when board a and board b and board c and board d : hold",), ()),
    (("when board * : hold",), ("when any : hold",)),
    (("when from ann@* and from *@mill : hold",), ("when from ann@mill : hold",)),
    (("when from ann@* and from bob@* : hold",), ()),
    (("when answer : hold", "when answer : pass"), ("when answer : hold",)),
    (("when " + " and ".join(f"sealed s{number}@hill" for number in range(9)) + " : hold",), ()),
)
PARTED = (
    ((), ("when any : hold",)),
    (("when answer : hold",), ("when strike : hold",)),
    (("when answer : hold",), ("when answer : refuse hold",)),
    (("when answer : refuse a",), ("when answer : refuse b",)),
    (("when answer : send a@b",), ("when answer : send b@a",)),
    (("when over 5 : hold",), ("when over 6 : hold",)),
    (("when over 60 : hold",), ()),
    (("when board a and board b and board c : hold",), ()),
    (("when board a* : hold",), ("when board a?* : hold",)),
    (("when from ann@* or from *@mill : hold",), ("when from ann@mill : hold",)),
    (("when answer : hold", "when strike : pass"), ("when strike : pass", "when answer : hold")),
    (("when answer and strike and word fish and over 3 and sealed a@b : hold",), ()),
    (("when " + " and ".join(f"sealed s{number}@hill" for number in range(8)) + " : hold",), ()),
    (("when not ( answer or strike or replace or word fish or over 1 ) : hold",), ()),
)
DEAD = (
    ((), ()),
    (("when answer : pass",), ()),
    (("when any : pass", "when answer : hold", "when strike : hold"), (1, 2)),
    (("when answer : pass", "when strike : hold", "when answer or strike : hold", "when any : pass"), (2,)),
    (("when answer : pass", "when answer and strike : hold"), (1,)),
    (("when answer and strike : hold", "when answer : pass"), ()),
    (("when strike and replace : hold", "when not any : pass", "when over 3 and not over 3 : pass"), (0, 1, 2)),
    (("when over 5 : hold", "when over 6 : hold", "when over 4 : hold"), (1,)),
    (("when over 4 : hold", "when not over 5 : hold", "when answer : hold"), (2,)),
    (("when board a* : hold", "when board ab : pass", "when board b : pass"), (1,)),
    (("when not board a* : hold", "when board a* : hold", "when any : pass"), (2,)),
    (("when from ann@mill : pass", "when from ann@* and from *@mill : hold", "when from *@mill : hold"), (1,)),
    (("when answer : pass", "when not answer : hold", "when any : hold"), (2,)),
)


def read(rows):
    return read_policy(rows)


def splits(tree):
    """The most splits on a way down."""
    return 1 + max(splits(tree[2]), splits(tree[3])) if tree[0] == "split" else 0


class ComparedTest(unittest.TestCase):
    def check_part(self, one, two):
        told = compared_policies(one, two)
        self.assertEqual(told[0], "part")
        self.assertEqual(len(told), 2)
        self.assertIs(is_notice(told[1]), True)
        self.assertNotEqual(verdict(one, told[1]), verdict(two, told[1]))

    def check_alike(self, one, two):
        told = compared_policies(one, two)
        self.assertEqual(told[0], "alike", told)
        self.assertEqual(len(told), 2)
        self.assertIs(judge_tree(one, two, told[1]), True)
        self.assertIs(judge_tree(two, one, told[1]), True)
        self.assertLessEqual(splits(told[1]), 10)

    def test_alike(self):
        for one, two in ALIKE:
            self.check_alike(read(one), read(two))
            self.check_alike(read(two), read(one))
            self.check_alike(read(one), read(one))

    def test_parted(self):
        for one, two in PARTED:
            self.check_part(read(one), read(two))
            self.check_part(read(two), read(one))

    def test_by_the_meaning(self):
        chance = random.Random(34)
        many = {"part": 0, "alike": 0}
        for _ in range(300):
            basics = chance.sample(FEW, 4)
            verdicts = chance.choice((randomrules.VERDICTS, (("pass",), ("hold",)), (("pass",),)))
            one, two = (randomrules.random_policy(chance, basics, verdicts=verdicts, most=3) for _ in range(2))
            tests = sorted({test for policy in (one, two) for rule in policy for test in plainrules.basics(rule[0])})
            parted = any(plainrules.comes_to(one, facts) != plainrules.comes_to(two, facts)
                         for facts in plainrules.cases(tests))
            many["part" if parted else "alike"] += 1
            if parted:
                self.check_part(one, two)
            else:
                self.check_alike(one, two)
        self.assertGreater(min(many.values()), 80)

    def test_many_tests(self):
        tests = tuple(("word", f"w{number}") for number in range(10))
        one = tuple((test, ("hold",)) for test in tests)
        join = tests[0]
        for test in tests[1:]:
            join = ("or", test, join)
        self.check_alike(one, ((join, ("hold",)),))
        self.check_part(one, ((("and", join, ("not", tests[4])), ("hold",)),))


class DeadTest(unittest.TestCase):
    def test_told_rules(self):
        for rows, dead in DEAD:
            policy = read(rows)
            self.assertEqual(dead_rules(policy), dead, rows)
            left = tuple(rule for number, rule in enumerate(policy) if number not in dead)
            self.assertEqual(without_dead(policy), left)
            self.assertEqual(compared_policies(policy, left)[0], "alike")
            self.assertEqual(dead_rules(left), ())
            self.assertIs(type(dead_rules(policy)), tuple)
            self.assertIs(type(without_dead(policy)), tuple)

    def test_by_the_meaning(self):
        chance = random.Random(35)
        for _ in range(200):
            policy = randomrules.random_policy(chance, chance.sample(FEW, 4), most=5, depth=2)
            tests = sorted({test for rule in policy for test in plainrules.basics(rule[0])})
            living = set()
            for facts in plainrules.cases(tests):
                holding = [number for number, rule in enumerate(policy) if plainrules.under(rule[0], facts)]
                living.update(holding[:1])
            dead = tuple(number for number in range(len(policy)) if number not in living)
            self.assertEqual(dead_rules(policy), dead, policy)
            self.assertEqual(without_dead(policy), tuple(policy[number] for number in sorted(living)))

    def test_twelve_rules(self):
        policy = tuple((("word", f"w{number % 10}"), ("hold",)) for number in range(12))
        self.assertEqual(dead_rules(policy), (10, 11))
        self.assertEqual(without_dead(policy), policy[:10])
