import random
import unittest

from criermoot.blocks import value_of, value_text
from criermoot.errors import BadWord
from criermoot.giver import Giver
from tests.plaintalk import PlainGiver

ANSWERS = ("ready", "closed", "want", "have", "old", "took", "spoilt", "cleared")
NOTICE = ("notice", "5@mill", 1, 12, ("Id: 5@mill", ".", "..x", ""))
LETTER = ("letter", "n:6@mill", ("(1)",))
BARE = ("letter", "n:7@mill", ())


def words_of(giver):
    """What a giver says until it has no more words."""
    found = []
    word = giver.next_word()
    while word is not None:
        found.append(word)
        word = giver.next_word()
    return found


def ready(*told, **more):
    """A giver that has said its first word, and has heard that the taker is ready."""
    giver = Giver("hill", "mill", *told, **more)
    assert giver.next_word() == "open hill mill" and giver.hear("ready") is None
    return giver


class GiverTest(unittest.TestCase):
    def bad(self, giver, *words):
        for word in words:
            state, items = giver.state, giver.open_items()
            with self.assertRaises(BadWord) as caught:
                giver.hear(word)
            self.assertEqual(caught.exception.word, word)
            self.assertEqual((giver.state, giver.open_items()), (state, items))

    def test_nothing_to_hand_on(self):
        giver = Giver("hill", "mill", ())
        self.bad(giver, "ready", "closed")
        self.assertEqual(words_of(giver), ["open hill mill"])
        self.assertIsNone(giver.next_word())
        self.bad(giver, "closed")
        self.assertIsNone(giver.hear("ready"))
        self.bad(giver, "ready", "closed")
        self.assertEqual(words_of(giver), ["close"])
        self.assertIs(giver.done, False)
        self.bad(giver, "ready")
        self.assertIsNone(giver.hear("closed"))
        self.assertIs(giver.done, True)
        self.bad(giver, "closed", "ready")
        self.assertIsNone(giver.next_word())

    def test_a_notice(self):
        giver = ready((NOTICE,))
        self.bad(giver, "want 5@mill", "have 5@mill")
        self.assertEqual(words_of(giver), ["offer 5@mill 1 12"])
        self.assertEqual(giver.open_items(), ("5@mill",))
        self.bad(giver, "took 5@mill", "spoilt 5@mill", "cleared 5@mill", "want 6@mill", "ready", "closed")
        self.assertIsNone(giver.hear("want 5@mill"))
        self.bad(giver, "want 5@mill", "have 5@mill", "old 5@mill", "took 5@mill")
        self.assertEqual(words_of(giver), ["body 5@mill", "Id: 5@mill", "..", "...x", "", "."])
        self.assertEqual(giver.open_items(), ("5@mill",))
        self.bad(giver, "want 5@mill", "cleared 5@mill")
        self.assertEqual(giver.hear("took 5@mill"), ("5@mill", "took"))
        self.assertEqual(giver.open_items(), ())
        self.bad(giver, "took 5@mill", "want 5@mill", "have 5@mill", "old 5@mill", "spoilt 5@mill")
        self.assertEqual(words_of(giver), ["close"])

    def test_answers_amid_a_body(self):
        giver = ready((NOTICE, LETTER))
        words_of(giver)
        giver.hear("want 5@mill")
        for word in ("body 5@mill", "Id: 5@mill", "..", "...x", ""):
            self.assertEqual(giver.next_word(), word)
            self.bad(giver, "took 5@mill", "have 5@mill", "old 5@mill", "spoilt 5@mill", "want 5@mill")
        self.assertIsNone(giver.hear("want n:6@mill"))
        self.assertEqual(words_of(giver), [".", "body n:6@mill", "(1)", "."])
        self.assertEqual(giver.hear("took n:6@mill"), ("n:6@mill", "took"))
        self.assertEqual(giver.hear("spoilt 5@mill"), ("5@mill", "spoilt"))

    def test_results(self):
        for word in ("have", "old"):
            for item in (NOTICE, LETTER):
                giver = ready((item,))
                words_of(giver)
                told = giver.hear(f"{word} {item[1]}")
                self.assertEqual(told, (item[1], word))
                self.assertEqual(words_of(giver), ["close"])
        for word in ("took", "have", "old", "spoilt"):
            for item in (NOTICE, LETTER, BARE):
                giver = ready((item,))
                words_of(giver)
                giver.hear(f"want {item[1]}")
                self.assertEqual(len(words_of(giver)), len(item[-1]) + 2)
                self.assertEqual(giver.hear(f"{word} {item[1]}"), (item[1], word))
                self.assertEqual(words_of(giver), ["close"])

    def test_windows(self):
        items = tuple(("letter", f"k{number}", ("x",)) for number in range(10))
        self.assertEqual(len(words_of(ready(items))), 4)
        for window in range(1, 9):
            giver = ready(items, (), window)
            self.assertEqual(words_of(giver), [f"bring k{number}" for number in range(window)])
            self.assertEqual(giver.open_items(), tuple(f"k{number}" for number in range(window)))
            giver.hear("want k0")
            self.assertEqual(words_of(giver), ["body k0", "x", "."])
            giver.hear("spoilt k0")
            self.assertEqual(words_of(giver), [f"bring k{window}"])
            giver.hear(f"have k{window}")
            self.assertEqual(words_of(giver), [f"bring k{window + 1}"] if window < 9 else [])
        giver = ready(items[:2], window=8)
        self.assertEqual(words_of(giver), ["bring k0", "bring k1"])

    def test_clears(self):
        giver = ready((), ("a", "b", "c"))
        self.bad(giver, "cleared a")
        self.assertEqual(giver.next_word(), "clear a")
        self.bad(giver, "cleared b", "have a", "took a")
        self.assertEqual(words_of(giver), ["clear b", "clear c"])
        self.assertEqual(giver.hear("cleared c"), ("c", "cleared"))
        self.assertEqual(giver.hear("cleared a"), ("a", "cleared"))
        self.assertIsNone(giver.next_word())
        self.bad(giver, "cleared a", "cleared c", "cleared d")
        self.assertEqual(giver.hear("cleared b"), ("b", "cleared"))
        self.assertEqual(words_of(giver), ["close"])
        self.bad(giver, "cleared b")

    def test_order(self):
        items = tuple(("letter", f"k{number}", ("x", "y")) for number in range(4))
        giver = ready(items, ("c",), window=3)
        self.assertEqual(words_of(giver), ["bring k0", "bring k1", "bring k2", "clear c"])
        giver.hear("want k2")
        giver.hear("want k0")
        self.assertEqual([giver.next_word() for _ in range(2)], ["body k2", "x"])
        self.assertEqual(giver.hear("have k1"), ("k1", "have"))
        # A place is free now, but the bodies come first.
        self.assertEqual([giver.next_word() for _ in range(2)], ["y", "."])
        self.assertEqual(giver.open_items(), ("k0", "k2"))
        self.assertEqual(words_of(giver), ["body k0", "x", "y", ".", "bring k3"])
        self.assertEqual(giver.open_items(), ("k0", "k2", "k3"))
        self.assertEqual(giver.hear("took k0"), ("k0", "took"))
        self.assertEqual(giver.hear("cleared c"), ("c", "cleared"))
        self.assertEqual(giver.hear("old k3"), ("k3", "old"))
        self.assertIsNone(giver.next_word())
        self.assertEqual(giver.hear("took k2"), ("k2", "took"))
        self.assertEqual(words_of(giver), ["close"])

    def test_offers_ahead_of_clears_and_close(self):
        giver = ready((LETTER, BARE), ("c",), 1)
        self.assertEqual(words_of(giver), ["bring n:6@mill", "clear c"])
        giver.hear("have n:6@mill")
        self.assertEqual(words_of(giver), ["bring n:7@mill"])
        giver.hear("cleared c")
        self.assertEqual(words_of(giver), [])
        giver.hear("have n:7@mill")
        self.assertEqual(words_of(giver), ["close"])

    def test_words_that_are_no_answers(self):
        giver = ready((NOTICE, LETTER), ("c",))
        words_of(giver)
        self.bad(giver, "", ".", "x", "open hill mill", "offer 5@mill 1 12", "bring n:6@mill", "body 5@mill", "clear c", "close",
                 "want", "want ", "want  5@mill", "want 5@mill ", "Want 5@mill", "have 05@mill", "old", "cleared", "ready ",
                 "closed", "spoilt 5@mill", "want c", "have c", "cleared 5@mill", "want 5@mill x")

    def test_arguments_by_name(self):
        giver = Giver(giver="a", taker="b", items=(), clears=("x",), window=1)
        self.assertEqual(giver.next_word(), "open a b")
        giver.hear("ready")
        self.assertEqual(words_of(giver), ["clear x"])

    def test_state(self):
        arguments = ("hill", "mill", (NOTICE, LETTER), ("c",), 1)
        giver = Giver(*arguments)
        steps = (giver.next_word, lambda: giver.hear("ready"), giver.next_word, lambda: giver.hear("want 5@mill"),
                 giver.next_word, giver.next_word)
        seen = [giver.state]
        for step in steps:
            step()
            self.assertNotIn(giver.state, seen)
            self.assertEqual(giver.state, giver.state)
            seen.append(giver.state)
        other = Giver(*arguments)
        self.assertEqual(other.state, seen[0])
        self.assertIsNone(other.resume(giver.state))
        self.assertEqual(other.state, giver.state)
        self.assertEqual(words_of(other), words_of(giver))
        other.resume(seen[3])
        self.assertEqual(other.state, seen[3])
        self.assertEqual(other.hear("have 5@mill"), ("5@mill", "have"))
        giver.resume(seen[0])
        self.assertEqual(words_of(giver), ["open hill mill"])

    def test_states_are_values(self):
        giver = ready((NOTICE, LETTER), ("c",))
        words_of(giver)
        giver.hear("want 5@mill")
        giver.next_word()
        self.assertEqual(value_of(value_text(giver.state)), giver.state)
        self.assertNotIn("True", value_text(giver.state))
        self.assertIsInstance(Giver.state, property)
        self.assertIsInstance(Giver.done, property)


class AgainstTheMeaningTest(unittest.TestCase):
    def arguments(self, chance):
        items = []
        for number in range(chance.randrange(6)):
            rows = tuple(chance.choice(("x", "", ".", "..", "close", ".x")) for _ in range(chance.randrange(4)))
            key = f"{number + 1}@mill"
            items.append(chance.choice((("notice", key, chance.randrange(9), 12, rows), ("letter", "n:" + key, rows))))
        clears = tuple(f"c{number}" for number in range(chance.randrange(4)))
        return ("hill", "mill", tuple(items), clears, chance.randrange(1, 9))

    def test_talks_by_chance(self):
        chance = random.Random(46)
        ended = 0
        for _ in range(150):
            arguments = self.arguments(chance)
            giver, plain = Giver(*arguments), PlainGiver(*arguments)
            for _ in range(120):
                if chance.random() < 0.1:
                    state = giver.state
                    giver = Giver(*arguments)
                    giver.resume(state)
                due = plain.due()
                if chance.random() < 0.5:
                    self.assertEqual(giver.next_word(), plain.next_word())
                elif due and chance.random() < 0.8:
                    word = chance.choice(sorted(due))
                    self.assertEqual(giver.hear(word), due[word])
                    plain.hear(word)
                else:
                    keys = [item[1] for item in arguments[2]] + list(arguments[3]) + ["x"]
                    word = chance.choice(ANSWERS)
                    word = word if word in ("ready", "closed") else f"{word} {chance.choice(keys)}"
                    if word not in due:
                        with self.assertRaises(BadWord):
                            giver.hear(word)
                self.assertEqual(giver.open_items(), plain.open_items())
                self.assertIs(type(giver.open_items()), tuple)
                self.assertIs(giver.done, ("hear", "closed") in plain.log)
            ended += giver.done
        self.assertGreater(ended, 50)
