import random
import unittest

from criermoot.stories import Desk, Story

ONE, TWO = ("hill", 1), ("mill", 2)


def told_story(limit, *changes):
    """A story of numbers: n is new, -n is gone."""
    story = Story(limit)
    for number in changes:
        told = story.new(number, ("hill", number)) if number > 0 else story.gone(-number)
        assert told is None
    return story


def changes_of(*numbers):
    return tuple(("new", number, ("hill", number)) if number > 0 else ("gone", -number) for number in numbers)


class StoryTest(unittest.TestCase):
    def test_empty(self):
        for limit in (0, 1, 20):
            story = Story(limit)
            self.assertEqual(story.last, 0)
            self.assertEqual(story.pairs(), ())
            self.assertEqual(story.since(0), ("since", 0, ()))

    def test_view(self):
        story = told_story(20, 3, 1, 7, -1)
        self.assertEqual(story.pairs(), ((3, ("hill", 3)), (7, ("hill", 7))))
        self.assertEqual(story.last, 4)
        story = told_story(20, 10, 9, -10, 11)
        self.assertEqual([number for number, _ in story.pairs()], [9, 11])

    def test_a_number_that_is_new_again(self):
        story = Story(20)
        story.new(1, ONE)
        story.gone(1)
        story.new(1, TWO)
        self.assertEqual(story.pairs(), ((1, TWO),))
        self.assertEqual(story.since(0), ("since", 3, (("new", 1, ONE), ("gone", 1), ("new", 1, TWO))))

    def test_answers(self):
        story = told_story(3, 1, 2, -1, 4, 5)
        self.assertEqual(story.since(5), ("since", 5, ()))
        self.assertEqual(story.since(4), ("since", 5, changes_of(5)))
        self.assertEqual(story.since(3), ("since", 5, changes_of(4, 5)))
        self.assertEqual(story.since(2), ("since", 5, changes_of(-1, 4, 5)))
        view = tuple((number, ("hill", number)) for number in (2, 4, 5))
        self.assertEqual(story.since(1), ("whole", 5, view))
        self.assertEqual(story.since(0), ("whole", 5, view))

    def test_limits(self):
        for limit in (0, 1, 2, 20):
            for many in range(limit + 3):
                numbers = range(1, many + 1)
                story = told_story(limit, *numbers)
                view = tuple((number, ("hill", number)) for number in numbers)
                for stamp in range(many + 1):
                    kept = many - stamp <= limit
                    told = ("since", many, changes_of(*numbers[stamp:])) if kept else ("whole", many, view)
                    self.assertEqual(story.since(stamp), told)

    def test_last_is_a_property(self):
        self.assertIsInstance(Story.last, property)
        self.assertIsInstance(Desk.stamp, property)
        self.assertIsInstance(Desk.view, property)


class DeskTest(unittest.TestCase):
    def test_empty(self):
        desk = Desk()
        self.assertEqual((desk.stamp, desk.view), (0, ()))
        self.assertIsNone(desk.hear(("since", 0, ())))
        self.assertEqual((desk.stamp, desk.view), (0, ()))

    def test_since(self):
        desk = Desk()
        desk.hear(("since", 3, changes_of(5, 2, 9)))
        self.assertEqual((desk.stamp, [number for number, _ in desk.view]), (3, [2, 5, 9]))
        desk.hear(("since", 5, changes_of(-5, 1)))
        self.assertEqual((desk.stamp, [number for number, _ in desk.view]), (5, [1, 2, 9]))

    def test_whole(self):
        desk = Desk()
        desk.hear(("since", 2, changes_of(5, 2)))
        desk.hear(("whole", 40, ((2, TWO), (7, ONE))))
        self.assertEqual((desk.stamp, desk.view), (40, ((2, TWO), (7, ONE))))
        desk.hear(("since", 41, (("gone", 2),)))
        self.assertEqual((desk.stamp, desk.view), (41, ((7, ONE),)))

    def test_whatever_it_missed(self):
        """Desks that hear few of the answers have the view of the story whenever they hear one."""
        chance = random.Random(54)
        words = {"since": 0, "whole": 0}
        for limit in (0, 1, 2, 5, 20):
            for _ in range(20):
                story, desks, next_number = Story(limit), [Desk() for _ in range(3)], 1
                for _ in range(60):
                    numbers = [number for number, _ in story.pairs()]
                    if numbers and chance.random() < 0.4:
                        story.gone(chance.choice(numbers))
                    else:
                        story.new(next_number, ("hill", next_number))
                        next_number += 1
                    for share, desk in zip((1, 0.3, 0.05), desks):
                        answer = story.since(desk.stamp)
                        if chance.random() < share:
                            desk.hear(answer)
                            words[answer[0]] += 1
                            self.assertEqual((desk.stamp, desk.view), (story.last, story.pairs()))
        self.assertGreater(min(words.values()), 300)
