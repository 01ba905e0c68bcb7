import random
import unittest

from criermoot.blocks import value_of, value_text
from criermoot.errors import BadWord
from criermoot.notices import write_notice
from criermoot.phrases import stuffed
from criermoot.taker import Taker
from tests.plaintalk import PlainTaker
from tests.samples import notice

ID = ("mill", 5)
ROWS = write_notice(notice())
GIVER_WORDS = ("open hill mill", "offer 5@mill 1 12", "bring n:5@mill", "body 5@mill", ".", "clear x", "close")
OTHER_WORDS = ("ready", "want 5@mill", "have 5@mill", "old 5@mill", "took 5@mill", "spoilt 5@mill", "cleared x", "closed",
               "", "x", "Id: 5@mill", "..", "open", "offer 5@mill 1", "close ", " ", "body", "clear")


class TakerCase(unittest.TestCase):
    def setUp(self):
        self.taker = Taker("hill", "mill")

    def hear(self, word, known=None, kept=(), clock=0, window=50):
        return self.taker.hear(word, {} if known is None else known, kept, clock, window)

    def says(self, word, told, **more):
        """Checks what is answered, and that what is passed stays as it is."""
        known = dict(more.get("known", {}))
        answered = self.hear(word, **more)
        self.assertEqual(answered, told, word)
        self.assertIs(type(answered), tuple)
        self.assertIs(type(answered[0]), tuple)
        self.assertEqual(more.get("known", {}), known)

    def bad(self, *words, **more):
        for word in words:
            state, done = self.taker.state, self.taker.done
            with self.assertRaises(BadWord) as caught:
                self.hear(word, **more)
            self.assertEqual(caught.exception.word, word)
            self.assertEqual((self.taker.state, self.taker.done), (state, done))

    def begin(self):
        self.says("open hill mill", (("ready",), None))

    def body(self, key, rows, told, **more):
        self.says(f"body {key}", ((), None))
        for row in rows:
            self.says(stuffed(row), ((), None))
        self.says(".", told, **more)


class WordsTest(TakerCase):
    def test_begin(self):
        self.bad(*GIVER_WORDS[1:])
        self.bad(*OTHER_WORDS)
        self.bad("open mill hill", "open hill hill", "open hill quay", "open quay mill", "open hill mill x", "open hill  mill")
        self.assertIs(self.taker.done, False)
        self.begin()
        self.bad("open hill mill", "open mill hill")

    def test_end(self):
        self.begin()
        self.says("close", (("closed",), None))
        self.assertIs(self.taker.done, True)
        self.bad(*GIVER_WORDS)
        self.bad(*OTHER_WORDS)

    def test_words_that_cannot_be_heard(self):
        self.begin()
        self.bad(*OTHER_WORDS)
        self.bad("body 5@mill", ".", "body x")
        self.bad("offer x 1 12", "offer 05@mill 1 12", "offer 0@mill 1 12", "offer 1000000@mill 1 12", "offer 5@Mill 1 12",
                 "offer n:5@mill 1 12", "offer 5@mill@mill 1 12", "offer mill 1 12")

    def test_wanted_keys(self):
        self.begin()
        self.says("offer 5@mill 1 12", (("want 5@mill",), None))
        self.bad("offer 5@mill 1 12", "offer 5@mill 2 13", "bring 5@mill", "body 6@mill", ".", "x", "open hill mill")
        self.bad("offer 5@mill 1 12", "bring 5@mill", known={ID: 0}, kept=("5@mill",))
        self.says("bring n:5@mill", (("want n:5@mill",), None))
        self.bad("bring n:5@mill", "offer 5@mill 1 12")
        self.body("5@mill", (), (("spoilt 5@mill",), None))
        self.bad("body 5@mill", ".")
        self.says("offer 5@mill 1 12", (("want 5@mill",), None))
        self.bad("bring n:5@mill")
        self.body("n:5@mill", (), (("took n:5@mill",), ("keep", "n:5@mill", ())))
        self.bad("body n:5@mill")
        self.says("bring n:5@mill", (("want n:5@mill",), None))

    def test_answered_keys_are_not_wanted(self):
        self.begin()
        self.says("offer 5@mill 1 12", (("have 5@mill",), None), known={ID: 1})
        self.says("offer 6@mill 1 12", (("old 6@mill",), None), clock=63)
        self.says("bring x", (("have x",), None), kept=("x",))
        self.bad("body 5@mill", "body 6@mill", "body x")
        for key in ("5@mill", "6@mill"):
            self.says(f"offer {key} 1 12", ((f"want {key}",), None))
        self.says("bring x", (("want x",), None))

    def test_clears(self):
        self.begin()
        self.says("clear x", (("cleared x",), ("clear", "x")), kept=("y", "x"))
        self.says("clear x", (("cleared x",), None), kept=("y",))
        self.says("clear x", (("cleared x",), None))
        self.says("clear 5@mill", (("cleared 5@mill",), None), known={ID: 1})
        self.says("bring x", (("want x",), None))
        self.says("clear x", (("cleared x",), None))
        self.body("x", (), (("took x",), ("keep", "x", ())))

    def test_close_ahead_of_bodies(self):
        self.begin()
        self.says("bring x", (("want x",), None))
        self.says("close", (("closed",), None))
        self.bad("body x")

    def test_words_amid_a_body(self):
        self.begin()
        self.says("bring x", (("want x",), None))
        self.says("bring y", (("want y",), None))
        rows = ("open hill mill", "close", "body y", "body x", "..", "...", "", " ", ".x", ".", "want x", "clear x", "offer x")
        self.body("x", rows, (("took x",), ("keep", "x", rows)))
        self.assertIs(self.taker.done, False)
        self.body("y", ("a",), (("took y",), ("keep", "y", ("a",))))
        self.says("close", (("closed",), None))


class OffersTest(TakerCase):
    def setUp(self):
        super().setUp()
        self.begin()

    def test_known_notices(self):
        for hops, known, told in ((1, 0, False), (1, 1, False), (1, 2, True), (5, 4, False), (5, 5, False), (5, 6, True),
                                  (0, 1, True), (0, 0, False)):
            event = ("near", ID, hops) if told else None
            for date, clock in ((12, 0), (12, 1000)):
                self.says(f"offer 5@mill {hops} {date}", (("have 5@mill",), event), known={ID: known, ("mill", 6): 0}, clock=clock)

    def test_old_notices(self):
        for number, (date, clock, window, told) in enumerate((
                (0, 50, 50, "want"), (0, 51, 50, "old"), (1, 51, 50, "want"), (12, 13, 1, "want"), (12, 14, 1, "old"),
                (9999999, 5, 1, "want"), (12, 9999, 9999, "want"), (0, 0, 1, "want"))):
            self.says(f"offer {number + 1}@mill 1 {date}", ((f"{told} {number + 1}@mill",), None), clock=clock, window=window)
            self.says(f"offer {number + 50}@mill 1 {date}", ((f"{told} {number + 50}@mill",), None), clock=clock, window=window,
                      known={("hill", number + 50): 1}, kept=(f"{number + 50}@mill",))

    def test_letters(self):
        self.says("bring x", (("have x",), None), kept=("x", "y"))
        self.says("bring z", (("want z",), None), kept=("x", "y"))
        # A letter can have the text of an id as its key.
        self.says("bring 5@mill", (("want 5@mill",), None), known={ID: 0}, clock=1000)
        self.body("5@mill", ("a", ".b"), (("took 5@mill",), ("keep", "5@mill", ("a", ".b"))), known={ID: 0}, clock=1000)


class BodiesTest(TakerCase):
    def setUp(self):
        super().setUp()
        self.begin()

    def offered(self, rows, told, hops=3, **more):
        self.says(f"offer 5@mill {hops} 12", (("want 5@mill",), None))
        self.body("5@mill", rows, told, **more)

    def test_taken(self):
        told = (("took 5@mill",), ("take", 3, notice()))
        self.offered(ROWS, told)
        self.offered(ROWS, told, clock=62, known={("mill", 6): 1}, kept=("5@mill",))
        self.offered(write_notice(notice(), 20), told)
        self.offered(ROWS, (("took 5@mill",), ("take", 0, notice())), hops=0)
        dots = notice(body=("text", "plain", (".", "..", "", ".x")))
        self.offered(write_notice(dots), (("took 5@mill",), ("take", 3, dots)))

    def test_spoilt_bodies(self):
        spoilt = (("spoilt 5@mill",), None)
        for rows in ((), ("",), ROWS[:-1], ROWS[1:], ROWS + ("",), ROWS + (".",), ROWS[:-1] + ("..",), ("x",) + ROWS, ROWS * 2,
                     tuple(row.replace("Fresh", "Fresk") for row in ROWS)):
            self.offered(rows, spoilt)
        for other in (notice(id=("mill", 6)), notice(id=("hill", 5), author="ann@hill"), notice(date=13), notice(date=11)):
            self.offered(write_notice(other), spoilt)
        # A body that is spoilt is spoilt also if the notice is known meanwhile, or too old.
        self.offered((), spoilt, known={ID: 0}, clock=1000)
        self.offered(write_notice(notice(date=13)), spoilt, known={ID: 9})
        self.offered(ROWS, (("took 5@mill",), ("take", 3, notice())))

    def test_known_meanwhile(self):
        for known, event in ((0, None), (2, None), (3, None), (4, ("near", ID, 3)), (9, ("near", ID, 3))):
            for clock in (0, 1000):
                self.offered(ROWS, (("have 5@mill",), event), known={ID: known}, clock=clock)

    def test_too_old_meanwhile(self):
        self.offered(ROWS, (("took 5@mill",), ("take", 3, notice())), clock=62)
        self.offered(ROWS, (("old 5@mill",), None), clock=63)
        self.offered(ROWS, (("old 5@mill",), None), clock=14, window=1)

    def test_kept_meanwhile(self):
        for kept, told in (((), True), (("y",), True), (("x",), False), (("y", "x"), False)):
            self.says("bring x", (("want x",), None))
            event = ("keep", "x", ("a", "", ".")) if told else None
            self.body("x", ("a", "", "."), ((("took x" if told else "have x"),), event), kept=kept, known={ID: 1}, clock=1000)

    def test_several_wanted(self):
        other = notice(id=("mill", 6), date=14)
        self.says("offer 5@mill 3 12", (("want 5@mill",), None))
        self.says("offer 6@mill 4 14", (("want 6@mill",), None))
        self.says("bring x", (("want x",), None))
        self.body("6@mill", write_notice(other), (("took 6@mill",), ("take", 4, other)))
        self.body("x", ("b",), (("took x",), ("keep", "x", ("b",))))
        self.body("5@mill", ROWS, (("took 5@mill",), ("take", 3, notice())))


class StateTest(TakerCase):
    def test_resumed_at_each_word(self):
        words = ("open hill mill", "offer 5@mill 3 12", "bring x", "body 5@mill") + tuple(stuffed(row) for row in ROWS) + (
            ".", "offer 6@mill 2 1", "body x", "..a", ".", "body 6@mill", ".", "clear x", "close")
        whole = [self.hear(word) for word in words]
        seen = []
        first = Taker("hill", "mill").state
        self.taker.resume(first)
        self.assertIs(self.taker.done, False)
        for word, told in zip(words, whole):
            state = self.taker.state
            self.assertEqual(state, self.taker.state)
            self.assertEqual(value_of(value_text(state)), state)
            self.assertNotIn("True", value_text(state))
            seen.append(state)
            other = Taker("hill", "mill")
            self.assertIsNone(other.resume(state))
            self.assertEqual(other.state, state)
            self.assertEqual(other.hear(word, {}, (), 0, 50), told)
            self.assertEqual(self.hear(word), told)
        self.assertIs(self.taker.done, True)
        # Only the clear, and the body of which nothing was kept, lead back to an earlier state.
        self.assertEqual(len(set(seen)), len(seen) - 2)
        self.assertIsInstance(Taker.state, property)
        self.assertIsInstance(Taker.done, property)


class AgainstTheMeaningTest(unittest.TestCase):
    def test_talks_by_chance(self):
        chance = random.Random(47)
        texts = {f"{number}@mill": write_notice(notice(id=("mill", number))) for number in (5, 6)}
        heard = 0
        for _ in range(250):
            taker, plain = Taker("hill", "mill"), PlainTaker("hill", "mill")
            pending = ["open hill mill"]
            for _ in range(60):
                key = chance.choice(sorted(texts) + ["x", "y"])
                words = [f"offer {key} {chance.randrange(4)} {chance.choice((12, 12, 13))}", f"bring {key}", f"body {key}",
                         f"clear {key}", chance.choice(GIVER_WORDS + OTHER_WORDS)]
                word = pending.pop(0) if pending else chance.choice(words)
                known = {("mill", number): chance.randrange(4) for number in (5, 6) if chance.random() < 0.2}
                kept = tuple(chance.sample(("x", "y", "5@mill"), chance.randrange(3)))
                more = (known, kept, chance.choice((0, 62, 63, 64)), 50)
                told = plain.hear(word, *more)
                if told is None:
                    state = taker.state
                    with self.assertRaises(BadWord):
                        taker.hear(word, *more)
                    self.assertEqual(taker.state, state)
                else:
                    heard += 1
                    self.assertEqual(taker.hear(word, *more), told)
                    if word == f"body {key}" and plain.wanted()[1] is not None and not pending and chance.random() < 0.7:
                        pending = [stuffed(row) for row in texts.get(key, ("a", "."))] + ["."]
        self.assertGreater(heard, 4000)
