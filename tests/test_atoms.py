import random
import unittest

from criermoot.atoms import atoms
from criermoot.errors import TooMany
from criermoot.patterns import sight
from tests import plainpatterns
from tests.test_parting import SPOTS_600, SPOTS_601


class AtomsTest(unittest.TestCase):
    def test_told_atoms(self):
        self.assertEqual(atoms(("a*", "*.b")), (((0, 0), "b"), ((0, 1), "b.b"), ((1, 0), "a"), ((1, 1), "a.b")))
        self.assertEqual(atoms(()), (((), "a"),))
        self.assertEqual(atoms(("*",)), (((1,), "a"),))
        self.assertEqual(atoms(("!*",)), (((0,), "a"),))
        self.assertEqual(atoms(("a",)), (((0,), "b"), ((1,), "a")))
        self.assertEqual(atoms(("1",)), (((0,), "a"),))
        self.assertEqual(atoms(("z", "z")), (((0, 0), "a"), ((1, 1), "z")))
        self.assertEqual(atoms(("a", "*,!a")), (((0, 1), "b"), ((1, 0), "a")))
        self.assertEqual(atoms(("?0", "?.?")), (((0, 0), "a"), ((0, 1), "a.a"), ((1, 0), "a0")))

    def test_forty_patterns(self):
        patterns = tuple(f"{letter}*" for letter in "abcdefghijklmnopqrst") * 2
        told = atoms(patterns)
        self.assertEqual(len(told), 21)
        self.assertEqual(told[0], ((0,) * 40, "u"))
        for seen, board in told:
            self.assertEqual(sight(patterns, (board,)), seen)
        patterns = tuple(f"*a{'?' * (k % 4)}" for k in range(40))
        self.assertEqual(atoms(patterns), plainpatterns.atoms(patterns))

    def test_by_the_meaning(self):
        chance = random.Random(14)
        for _ in range(120):
            patterns = []
            for _ in range(chance.randrange(4)):
                items = ["".join(chance.choices("ab.?**1", k=chance.randrange(1, 5))) for _ in range(chance.randrange(1, 3))]
                patterns.append(",".join(chance.choice(("", "", "!")) + item for item in items))
            try:
                told = atoms(tuple(patterns))
            except TooMany as error:
                told = error.part
            self.assertEqual(told, plainpatterns.atoms(tuple(patterns)), patterns)

    def test_bound(self):
        self.assertEqual(atoms((SPOTS_600,)), plainpatterns.atoms((SPOTS_600,)))
        self.assertEqual(len(atoms((SPOTS_600, SPOTS_600))), 2)
        for patterns in ((SPOTS_601,), ("*a??????????", "b"), (SPOTS_600, "c*")):
            with self.assertRaises(TooMany) as caught:
                atoms(patterns)
            self.assertEqual(caught.exception.part, "spots")

    def test_kinds(self):
        told = atoms(("a", "b"))
        self.assertIs(type(told), tuple)
        self.assertTrue(all(type(pair) is tuple and type(pair[0]) is tuple for pair in told))
        self.assertTrue(all(type(one) is int for pair in told for one in pair[0]))
        self.assertEqual(told, atoms(("a", "b")))
