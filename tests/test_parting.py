import random
import unittest

from criermoot.errors import TooMany
from criermoot.parting import compared_patterns, judge_spots
from criermoot.patterns import lets
from tests import plainpatterns

SPOTS_600 = "!*a??????*a,*a.aa*"
SPOTS_601 = "*b??????aa?a?"
PART_600 = ("a*a???????*,dddddd.", "a*a???????*,dddddd.,cc?ccccc?ccc")
PART_601 = ("*b???????*", "*b???????*,?1c.cc11.c.cc")
ALIKE = (("a*", "a*,a"), ("*", "*,a"), ("a", "a"), ("!a", "!b"), ("*,!a", "*,!a,!a"), ("?*", "*"), ("**", "*"),
         ("a*,b*", "b*,a*"), ("1", "!*"), ("a..b", ".a"), ("*.", "!a"), ("*?*", "*"), ("a.*,!a.b", "a.b,a.*,!a.b"),
         ("?", "?,a"), ("*,!*.*", "!*.*,*,!*.*"))
PARTED = (("a*", "a?*", "a"), ("a", "b", "a"), ("*", "!*", "a"), ("*,!a", "*", "a"), ("*,!b", "*,!c", "b"),
          ("?", "??", "a"), ("a.?", "a.b", "a.a"), ("a.?", "a?a", "a.b"), ("*.*", "*.b", "a.a"), ("z9", "z8", "z8"),
          ("?1", "!*", "a1"), ("*1*", "!*", "a1"), ("*.a", "*.a,b0", "b0"), ("aa,a0,a.a", "!*", "a0"),
          ("?" * 60, "!*", "a." * 29 + "a0"), ("c,b", "c", "b"), ("?,!a", "!*", "b"), ("?,!a,!b,!c", "!*", "d"),
          ("a?,!a0,!a1", "!*", "a2"), ("a?,!a0,!aa,!ab", "!*", "a1"), ("???", "???,!?.?", "a.a"))


def compared(pattern, other):
    try:
        return compared_patterns(pattern, other)
    except TooMany as error:
        return error.part


class ComparedTest(unittest.TestCase):
    def test_parted(self):
        for pattern, other, board in PARTED:
            self.assertEqual(compared_patterns(pattern, other), ("part", board))
            self.assertEqual(compared_patterns(other, pattern), ("part", board))

    def test_alike(self):
        for pattern, other in ALIKE:
            told = compared_patterns(pattern, other)
            self.assertEqual(told, plainpatterns.compared(pattern, other))
            self.assertEqual(told[0], "alike")
            self.assertEqual(list(told[1]), sorted(set(told[1])))
            self.assertIs(judge_spots(pattern, other, told[1]), True)

    def test_told_spots(self):
        self.assertEqual(compared_patterns("a", "a"), ("alike", (
            (0, (((),), ((),))), (0, (((1,),), ((1,),))), (1, (((),), ((),))), (1, (((0,),), ((0,),))))))

    def test_by_the_meaning(self):
        chance = random.Random(11)
        for _ in range(250):
            patterns = []
            for _ in range(2):
                items = ["".join(chance.choices("ab.?**1", k=chance.randrange(1, 5))) for _ in range(chance.randrange(1, 4))]
                patterns.append(",".join(chance.choice(("", "", "!")) + item for item in items))
            told = compared(*patterns)
            self.assertEqual(told, plainpatterns.compared(*patterns), patterns)
            if told[0] == "part":
                self.assertIsNot(lets(patterns[0], told[1]), lets(patterns[1], told[1]))

    def test_bound_without_a_part(self):
        told = compared_patterns(SPOTS_600, SPOTS_600)
        self.assertEqual(len(told[1]), 600)
        self.assertEqual(told, plainpatterns.compared(SPOTS_600, SPOTS_600))
        self.assertIs(judge_spots(SPOTS_600, SPOTS_600, told[1]), True)
        self.assertEqual(sum(len(level) for level in plainpatterns.levels((SPOTS_601,))), 601)
        with self.assertRaises(TooMany) as caught:
            compared_patterns(SPOTS_601, SPOTS_601)
        self.assertEqual(caught.exception.part, "spots")

    def test_bound_with_a_part(self):
        for patterns, length, ahead in ((PART_600, 12, 600), (PART_601, 13, 601)):
            levels = [len(level) for level in plainpatterns.levels(patterns)]
            self.assertEqual(sum(levels[:length]), ahead)
            self.assertGreater(sum(levels), 600)
        told = compared_patterns(*PART_600)
        self.assertEqual(told, plainpatterns.compared(*PART_600))
        self.assertEqual((told[0], len(told[1])), ("part", 12))
        self.assertEqual(plainpatterns.compared(*PART_601), "spots")
        self.assertEqual(compared(*PART_601), "spots")

    def test_many_spots_behind_a_near_part(self):
        self.assertEqual(compared_patterns("*a?????????????", "*a?????????????,b"), ("part", "b"))
        self.assertEqual(compared("*a?????????????", "*a?????????????"), "spots")


class JudgeTest(unittest.TestCase):
    def test_any_order_and_further_spots(self):
        chance = random.Random(12)
        for pattern, other in ALIKE:
            spots = list(compared_patterns(pattern, other)[1])
            chance.shuffle(spots)
            self.assertIs(judge_spots(pattern, other, tuple(spots)), True)
            self.assertIs(judge_spots(pattern, other, tuple(spots + spots[:1])), True)
        spots = compared_patterns("a", "a")[1]
        further = ((1, (((1,),), ((1,),))), (0, (((0,),), ((0,),))), (0, (((0, 1),), ((0, 1),))))
        for many in range(4):
            self.assertIs(judge_spots("a", "a", further[:many] + spots), True)

    def test_missing_spots(self):
        for pattern, other in ALIKE:
            spots = compared_patterns(pattern, other)[1]
            for number in range(len(spots)):
                self.assertIs(judge_spots(pattern, other, spots[:number] + spots[number + 1:]), False)
            self.assertIs(judge_spots(pattern, other, ()), False)

    def test_further_spots_that_part(self):
        spots = compared_patterns("a", "a")[1]
        self.assertIs(judge_spots("a", "a", spots + ((0, (((1,),), ((),))),)), False)
        self.assertIs(judge_spots("a", "a", spots + ((1, (((1,),), ((),))),)), True)
        # What follows on the further spot parts, or is missing.
        self.assertIs(judge_spots("a", "a", spots + ((1, (((0,),), ((),))),)), False)
        self.assertIs(judge_spots("a", "a", spots + ((0, (((0, 1),), ((0, 1),))),)), True)
        self.assertIs(judge_spots("a*", "a*", compared_patterns("a*", "a*")[1] + ((1, (((2,),), ((2,),))),)), True)

    def test_patterns_that_part(self):
        spots = tuple(plainpatterns.levels(("a*", "a?*"))[0])
        every = tuple(spot for level in plainpatterns.levels(("a*", "a?*")) for spot in level)
        self.assertIs(judge_spots("a*", "a?*", spots), False)
        self.assertIs(judge_spots("a*", "a?*", every), False)
        # A spot is asked only where a board can end.
        every = tuple(spot for level in plainpatterns.levels(("a.", "!*")) for spot in level)
        self.assertIs(judge_spots("a.", "!*", every), True)

    def test_forms_of_spots(self):
        pattern, other = "a*,!b", "!b,a*"
        spots = compared_patterns(pattern, other)[1]
        right = ((), ()), ((), ())
        self.assertIn((0, right), spots)
        self.assertIs(judge_spots(pattern, other, spots), True)
        for wrong in (
                (2, right), (-1, right), (1000000, right), (0, (((), ()),)), (0, right + (((), ()),)), (0, ()),
                (0, (((),), ((), ()))), (0, (((), (), ()), ((), ()))), (0, (((), ()), ((),))), (0, ((), ())),
                (0, (((3,), ()), ((), ()))), (0, (((-1,), ()), ((), ()))), (0, (((), (2,)), ((), ()))),
                (0, (((1000000,), ()), ((), ()))), (0, (((2, 1), ()), ((), (1, 2)))), (0, (((2, 2), ()), ((), (2,)))),
                (0, (((1,), ()), ((), (1,)))), (0, (((0, 1), ()), ((), (0, 1)))), (0, (((), ()), ((1, 0), ()))),
                (0, (((), ()), ((0, 0), ()))), (0, ((tuple(range(600)), ()), ((), ())))):
            self.assertIs(judge_spots(pattern, other, spots + (wrong,)), False, wrong)
            self.assertIs(judge_spots(pattern, other, (wrong,) + spots), False, wrong)
        for further in ((1, (((1, 2), ()), ((), (1, 2)))), (1, (((0,), ()), ((), (0,))))):
            self.assertIn(judge_spots(pattern, other, spots + (further,)), (True, False))

    def test_stars_side_by_side(self):
        spots = compared_patterns("a**", "a*")[1]
        self.assertIs(judge_spots("a**", "a*", spots), True)
        self.assertIn((0, (((1, 2, 3),), ((1, 2),))), spots)
        for standing in ((1,), (1, 2), (1, 3), (2,)):
            self.assertIs(judge_spots("a**", "a*", spots + ((0, ((standing,), ((1, 2),))),)), False, standing)
        self.assertIs(judge_spots("a**", "a*", spots + ((0, (((3,),), ((1, 2),))),)), False)
        self.assertIs(judge_spots("a**", "a*", spots + ((0, (((3,),), ((2,),))), (0, (((),), ((2,),))))), False)

    def test_places_behind_stars(self):
        """A spot that lacks nothing but a place behind a star is not taken."""
        for pattern, other, further, wrong in (
                ("a**", "a*", (((3,),), ((2,),)), (((1, 3),), ((1, 2),))),
                ("**", "*", (((2,),), ((1,),)), (((0, 2),), ((0, 1),))),
                ("a*", "a*", (((),), ((),)), (((1,),), ((1,),)))):
            spots = compared_patterns(pattern, other)[1] + ((0, further), (1, further))
            self.assertIs(judge_spots(pattern, other, spots), True)
            for is_open in (0, 1):
                self.assertIs(judge_spots(pattern, other, spots + ((is_open, wrong),)), False)

    def test_not_for_other_patterns(self):
        spots = compared_patterns("a*", "a*,a")[1]
        self.assertIs(judge_spots("a*,a", "a*", spots), False)
        self.assertIs(judge_spots("a*", "a*", spots), False)
        self.assertIs(judge_spots("*a", "*a,a", spots), False)
        # Spots tell places only, so that they can be right for other patterns, too.
        self.assertIs(judge_spots("b*", "b*,b", spots), True)

    def test_judged_by_the_meaning(self):
        """Spots of two patterns, with one taken out or put in, are judged as the document says."""
        chance = random.Random(13)
        for _ in range(60):
            pattern = "".join(chance.choices("ab.?*", k=3))
            other = chance.choice((pattern + ",!1", pattern + "," + pattern, "!1," + pattern))
            spots = list(compared_patterns(pattern, other)[1])
            if chance.random() < 0.5:
                del spots[chance.randrange(len(spots))]
            spot = chance.choice(spots)
            spots.append((1 - spot[0], spot[1]))
            self.assertIs(judge_spots(pattern, other, tuple(spots)), self.plain_judge(pattern, other, spots))

    def plain_judge(self, pattern, other, spots):
        patterns = (pattern, other)
        if plainpatterns.first_spot(patterns) not in spots:
            return False
        for spot in spots:
            for sign in plainpatterns.can_follow(spot):
                if plainpatterns.spot_behind(patterns, spot, sign) not in spots:
                    return False
            one = plainpatterns.lets_here(pattern, spot[1][0])
            if spot[0] == 0 and one != plainpatterns.lets_here(other, spot[1][1]):
                return False
        return True
