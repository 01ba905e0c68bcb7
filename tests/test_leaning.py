import random
import unittest

from criermoot.errors import TooMany
from criermoot.leaning import leaned, needless
from tests import plainpatterns


def plain_needless(pattern):
    items = pattern.split(",")
    if len(items) == 1:
        return ()
    rests = [",".join(items[:k] + items[k + 1:]) for k in range(len(items))]
    return tuple(k for k, rest in enumerate(rests) if plainpatterns.compared(pattern, rest)[0] == "alike")


class LeaningTest(unittest.TestCase):
    def test_needless(self):
        for pattern, told in (
                ("a", ()), ("!a", ()), ("1", ()), ("a,b", ()), ("a,a", (0, 1)), ("a*,a", (1,)), ("a,a*", (0,)),
                ("*,a,!b", (1,)), ("!a,b", (0,)), ("a,!b", (1,)), ("!a,!b", (0, 1)), ("a,!a", (0,)),
                ("a*,!ab,ab", (1,)), ("a*,!ab,a*", (0, 1)), ("*,!*.*,a", (2,)), ("a,1,b", (1,)),
                ("a,b,c,d,e,f,g,h", ()), ("a,a,a,a,a,a,a,a", tuple(range(8)))):
            self.assertEqual(needless(pattern), told, pattern)

    def test_leaned(self):
        for pattern, told in (
                ("a", "a"), ("!a", "!a"), ("1", "1"), ("a,a", "a"), ("a*,a", "a*"), ("a,a*", "a*"), ("!a,b", "b"),
                ("!a,!b", "!b"), ("a,!a", "!a"), ("!a,!a,!b", "!b"), ("a*,!ab,a*", "a*"), ("a,b,a", "b,a"),
                ("*,a,!b,!b,1", "*,!b"), ("1,2,3", "3"), ("a,a,a,a,a,a,a,a", "a")):
            self.assertEqual(leaned(pattern), told, pattern)

    def test_by_the_meaning(self):
        chance = random.Random(15)
        for _ in range(100):
            items = ["".join(chance.choices("ab?**", k=chance.randrange(1, 4))) for _ in range(chance.randrange(1, 5))]
            pattern = ",".join(chance.choice(("", "", "!")) + item for item in items)
            self.assertEqual(needless(pattern), plain_needless(pattern), pattern)
            rest = pattern
            while plain_needless(rest):
                items = rest.split(",")
                del items[plain_needless(rest)[0]]
                rest = ",".join(items)
            self.assertEqual(leaned(pattern), rest, pattern)
            self.assertEqual(needless(leaned(pattern)), ())

    def test_too_many(self):
        for asked in (needless, leaned):
            with self.assertRaises(TooMany) as caught:
                asked("*a????????????,*a????????????")
            self.assertEqual(caught.exception.part, "spots")
            self.assertIn(asked("*a????????????"), ((), "*a????????????"))
