"""[31]: whole talks, and talks that are cut between any two words and begun again."""

import itertools
import random
import unittest

from criermoot.blocks import pieces, value_of
from criermoot.giver import Giver
from criermoot.notices import write_notice
from criermoot.taker import Taker
from tests.samples import notice

CLOCK = 10
WINDOW = 50
SETTLED = ("took", "have", "old")


def notice_item(number, date=12, hops=1):
    post = notice(id=("hill", number), author="ann@hill", date=date)
    return ("notice", f"{number}@hill", hops, date, write_notice(post))


def letter_item(number):
    return ("letter", f"n:{number}@hill", pieces(("letter", f"n:{number}@hill", "bob@mill", (".", "x" * 50))))


class Line:
    """The two sites at the ends of a line, with what they remember, and the talks that they hold."""

    def __init__(self, items, window=4, known=None):
        self.items = list(items)
        self.clears = []
        self.window = window
        self.known = dict(known or {})
        self.kept = []
        self.taken = []
        self.letters = []
        self.bodies = {}
        self.cuts = {}
        self.settled = []
        self.results = {}
        self.begin()

    def begin(self):
        self.giver = Giver("hill", "mill", tuple(self.items), tuple(self.clears), self.window)
        self.taker = Taker("hill", "mill")
        self.ahead, self.back = [], []

    def say(self):
        word = self.giver.next_word()
        if word is not None:
            self.ahead.append(word)
        return word is not None

    def hear(self):
        """The taker hears a word, and its site does the event."""
        if not self.ahead:
            return False
        word = self.ahead.pop(0)
        amid = self.taker.state
        words, event = self.taker.hear(word, self.known, tuple(self.kept), CLOCK, WINDOW)
        if word.startswith("body ") and amid[2] is None:
            self.bodies[word[5:]] = self.bodies.get(word[5:], 0) + 1
        self.back.extend(words)
        if event is not None:
            self.do(event)
        return True

    def do(self, event):
        if event[0] == "take":
            assert event[2][1] not in self.known
            self.known[event[2][1]] = event[1]
            self.taken.append(event[2][1])
        elif event[0] == "near":
            assert self.known[event[1]] > event[2]
            self.known[event[1]] = event[2]
        elif event[0] == "keep":
            assert event[1] not in self.kept
            self.kept.append(event[1])
            self.letters.append((event[1], value_of("".join(event[2]))))
        else:
            self.kept.remove(event[1])

    def answer(self):
        """The giver hears an answer, and its site settles what it names."""
        if not self.back:
            return False
        told = self.giver.hear(self.back.pop(0))
        if told is not None:
            self.settle(*told)
        return True

    def settle(self, key, result):
        self.settled.append((key, result))
        if result == "cleared":
            self.clears.remove(key)
            return
        self.results.setdefault(key, []).append(result)
        if result in ("took", "have"):
            # What the giver has settled so is known, or kept or cleared, at the taker.
            assert any(f"{id[1]}@{id[0]}" == key for id in self.known) or key in [name for name, _ in self.letters]
        if result in SETTLED:
            item = [one for one in self.items if one[1] == key][0]
            self.items.remove(item)
            if item[0] == "letter" and result != "old":
                self.clears.append(key)

    def cut(self):
        for key in self.giver.open_items():
            self.cuts[key] = self.cuts.get(key, 0) + 1
        self.begin()

    def hold(self):
        """Holds the talk to its end; tells whether it was."""
        while self.say() or self.hear() or self.answer():
            pass
        return self.giver.done

    def keep(self, case):
        """What must hold at every moment."""
        case.assertEqual(len(self.taken), len(set(self.taken)))
        for key, many in self.bodies.items():
            case.assertLessEqual(many, self.cuts.get(key, 0) + 1)


ITEMS = (notice_item(1), letter_item(2), notice_item(3, date=12, hops=4), letter_item(4), notice_item(5), notice_item(6))


class WholeTalkTest(unittest.TestCase):
    def check_end(self, line, items):
        self.assertTrue(line.giver.done)
        self.assertTrue(line.taker.done)
        self.assertEqual(line.items, [])
        line.keep(self)
        self.assertEqual(sorted(line.taken), sorted(("hill", int(item[1].split("@")[0])) for item in items if item[0] == "notice"))
        self.assertEqual(sorted(key for key, _ in line.letters), sorted(item[1] for item in items if item[0] == "letter"))

    def test_each_window(self):
        for window in range(1, 9):
            line = Line(ITEMS, window)
            self.assertTrue(line.hold())
            self.check_end(line, ITEMS)
            self.assertEqual({key: many for key, many in line.bodies.items()}, {item[1]: 1 for item in ITEMS})
            self.assertEqual(line.known[("hill", 3)], 4)
            # The letters are cleared in the next talk.
            self.assertEqual(line.clears, ["n:2@hill", "n:4@hill"])
            self.assertEqual(sorted(line.kept), ["n:2@hill", "n:4@hill"])
            line.begin()
            self.assertTrue(line.hold())
            self.assertEqual((line.clears, line.kept), ([], []))

    def test_letters_are_whole(self):
        line = Line((letter_item(2),))
        line.hold()
        self.assertEqual(line.letters, [("n:2@hill", ("letter", "n:2@hill", "bob@mill", (".", "x" * 50)))])

    def test_what_is_known(self):
        line = Line((notice_item(1, hops=2), notice_item(3, hops=2), notice_item(5, hops=2)), known={("hill", 1): 2, ("hill", 3): 5})
        self.assertTrue(line.hold())
        self.assertEqual(line.settled, [("1@hill", "have"), ("3@hill", "have"), ("5@hill", "took")])
        self.assertEqual(line.known, {("hill", 1): 2, ("hill", 3): 2, ("hill", 5): 2})
        self.assertEqual(line.bodies, {"5@hill": 1})

    def test_words_in_any_order(self):
        chance = random.Random(48)
        for _ in range(150):
            line = Line(ITEMS, chance.randrange(1, 9))
            while not line.giver.done:
                chance.choice((line.say, line.hear, line.answer))()
                line.keep(self)
            self.check_end(line, ITEMS)
            self.assertEqual(set(line.bodies.values()), {1})
            self.assertEqual((line.ahead, line.back), ([], []))

    def test_old_and_spoilt(self):
        old = notice_item(1, date=0)
        spoilt = notice_item(3)
        spoilt = spoilt[:4] + (spoilt[4][:-1] + ("...",),)
        global CLOCK
        before, CLOCK = CLOCK, 55
        try:
            line = Line((old, spoilt, notice_item(5)))
            self.assertTrue(line.hold())
            self.assertEqual(line.settled, [("1@hill", "old"), ("3@hill", "spoilt"), ("5@hill", "took")])
            self.assertEqual([item[1] for item in line.items], ["3@hill"])
            self.assertEqual(line.taken, [("hill", 5)])
        finally:
            CLOCK = before


class CutTalkTest(unittest.TestCase):
    def steps(self, line, order):
        """Does steps in this order, again and again, until the talk is over; yields behind each."""
        idle = 0
        for name in itertools.cycle(order):
            idle = 0 if getattr(line, name)() else idle + 1
            yield
            if line.giver.done or idle > len(order):
                return

    def test_cut_behind_each_step(self):
        items = ITEMS[:4]
        for order in (("say", "hear", "answer"), ("say", "say", "say", "hear", "answer"), ("say", "hear", "say", "hear", "answer")):
            many = sum(1 for _ in self.steps(Line(items, 2), order))
            self.assertGreater(many, 60)
            for at in range(many):
                line = Line(items, 2)
                for number, _ in enumerate(self.steps(line, order)):
                    if number == at:
                        break
                line.cut()
                line.keep(self)
                self.assertTrue(line.hold())
                line.begin()
                self.assertTrue(line.hold())
                self.assertEqual((line.items, line.clears, line.kept), ([], [], []))
                self.assertEqual(sorted(line.taken), [("hill", 1), ("hill", 3)])
                # Without a clear between, no letter is kept twice.
                self.assertEqual(sorted(key for key, _ in line.letters), ["n:2@hill", "n:4@hill"])
                line.keep(self)

    def test_cut_by_chance(self):
        chance = random.Random(49)
        for _ in range(120):
            line = Line(ITEMS, chance.randrange(1, 9))
            for _ in range(chance.randrange(400)):
                step = chance.choice(("say", "say", "hear", "hear", "answer", "answer", "cut" if chance.random() < 0.2 else "say"))
                getattr(line, step)()
                line.keep(self)
                if line.giver.done:
                    line.begin()
            line.cut()
            for _ in range(2):
                self.assertTrue(line.hold())
                line.begin()
            self.assertEqual((line.items, line.clears, line.kept), ([], [], []))
            self.assertEqual(sorted(line.taken), [("hill", number) for number in (1, 3, 5, 6)])
            self.assertEqual(len(line.letters), 2)
            for results in line.results.values():
                self.assertEqual(results[-1] in SETTLED, True)
                self.assertEqual(len(results), 1)
            line.keep(self)
