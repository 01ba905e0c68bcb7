import random
import unittest

from criermoot.errors import BadRule
from criermoot.rulereading import read_policy
from criermoot.rulewriting import write_policy, write_test
from tests.randomrules import BASICS, random_policy, random_test

A, B, C = ("any",), ("answer",), ("word", "c")
JOINS = (
    (("and", ("and", A, B), C), "any and answer and word c"),
    (("and", A, ("and", B, C)), "any and ( answer and word c )"),
    (("or", ("or", A, B), C), "any or answer or word c"),
    (("or", A, ("or", B, C)), "any or ( answer or word c )"),
    (("or", ("and", A, B), C), "any and answer or word c"),
    (("or", A, ("and", B, C)), "any or answer and word c"),
    (("and", ("or", A, B), C), "( any or answer ) and word c"),
    (("and", A, ("or", B, C)), "any and ( answer or word c )"),
    (("not", A), "not any"),
    (("not", ("not", A)), "not not any"),
    (("not", ("and", A, B)), "not ( any and answer )"),
    (("not", ("or", A, B)), "not ( any or answer )"),
    (("and", ("not", A), B), "not any and answer"),
    (("and", A, ("not", B)), "any and not answer"),
    (("or", ("not", A), ("not", B)), "not any or not answer"),
    (("not", ("not", ("or", A, ("not", B)))), "not not ( any or not answer )"),
    (("or", ("or", ("and", A, ("or", B, C)), C), ("or", A, B)),
     "any and ( answer or word c ) or word c or ( any or answer )"),
    (("and", ("and", ("and", A, B), ("and", A, B)), ("not", ("and", A, B))),
     "any and answer and ( any and answer ) and not ( any and answer )"),
)
TEXTS = (
    (("any",), "any"), (("answer",), "answer"), (("strike",), "strike"), (("replace",), "replace"),
    (("board", "town.*,!a"), "board town.*,!a"), (("from", "*", "*"), "from *@*"), (("from", "ann", "*"), "from ann@*"),
    (("from", "*", "mill"), "from *@mill"), (("from", "ann", "mill"), "from ann@mill"), (("word", "or"), "word or"),
    (("over", 0), "over 0"), (("over", 60), "over 60"), (("sealed", "bob@hill"), "sealed bob@hill"),
)


def read_test(row):
    """The test of a row, None if it is none."""
    try:
        return read_policy((f"when {row} : pass",))[0][0]
    except BadRule:
        return None


class WritingTest(unittest.TestCase):
    def test_basic_tests(self):
        for test, text in TEXTS:
            self.assertEqual(write_test(test), text)
            self.assertEqual(read_test(text), test)

    def test_joins(self):
        for test, text in JOINS:
            self.assertEqual(write_test(test), text)
            self.assertEqual(read_test(text), test)

    def test_rows(self):
        self.assertEqual(write_policy(()), ())
        policy = ((A, ("pass",)), (("not", B), ("hold",)), (C, ("refuse", "when")), (A, ("send", "bob@hill")))
        rows = ("when any : pass", "when not answer : hold", "when word c : refuse when", "when any : send bob@hill")
        self.assertEqual(write_policy(policy), rows)
        self.assertIs(type(write_policy(policy)), tuple)
        self.assertEqual(read_policy(rows), policy)

    def test_written_and_read_again(self):
        chance = random.Random(29)
        for _ in range(300):
            policy = random_policy(chance, depth=5)
            self.assertEqual(read_policy(write_policy(policy)), policy)
        for deep in (("not",), ("and", A), ("or", A)):
            test = B
            for _ in range(12):
                test = deep + (test,)
            self.assertEqual(read_policy(write_policy(((test, ("hold",)),))), ((test, ("hold",)),))

    def test_parentheses_only_where_they_are_needed(self):
        chance = random.Random(30)
        for _ in range(200):
            test = random_test(chance, depth=4)
            tokens = write_test(test).split(" ")
            self.assertEqual(" ".join(tokens), write_test(test))
            opened = []
            for at, token in enumerate(tokens):
                if token == "(":
                    opened.append(at)
                if token == ")":
                    begin = opened.pop()
                    left = tokens[:begin] + tokens[begin + 1:at] + tokens[at + 1:]
                    self.assertNotEqual(read_test(" ".join(left)), test)

    def test_all_basic_tests_are_tried(self):
        self.assertEqual({test[0] for test in BASICS}, {test[0] for test, _ in TEXTS})
