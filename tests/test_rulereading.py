import random
import unittest

from criermoot.errors import BadRule, TextError
from criermoot.rulereading import read_policy
from criermoot.rulewriting import write_policy
from tests import plainrules
from tests.randomrules import random_policy

A, B = ("any",), ("answer",)
RIGHT = (
    ("when any : pass", (A, ("pass",))),
    ("when (any) : hold", (A, ("hold",))),
    ("when ((any)) : hold", (A, ("hold",))),
    ("  when   any   :   pass  ", (A, ("pass",))),
    ("when(any): pass".replace(":", " :"), (A, ("pass",))),
    ("when not(any): pass".replace("):", ") :"), (("not", A), ("pass",))),
    ("when ( any and ( answer ) ) : pass", (("and", A, B), ("pass",))),
    ("when (any)and(answer) : pass", (("and", A, B), ("pass",))),
    ("when ( any and any ) and answer : pass", (("and", ("and", A, A), B), ("pass",))),
    ("when not ( not ( any ) ) : pass", (("not", ("not", A)), ("pass",))),
    ("when any or answer and any : pass", (("or", A, ("and", B, A)), ("pass",))),
    ("when word and and word or : refuse and", (("and", ("word", "and"), ("word", "or")), ("refuse", "and"))),
    ("when word when or word not : refuse when", (("or", ("word", "when"), ("word", "not")), ("refuse", "when"))),
    ("when word word : refuse refuse", (("word", "word"), ("refuse", "refuse"))),
    ("when board and and board board : send send@send",
     (("and", ("board", "and"), ("board", "board")), ("send", "send@send"))),
    ("when from from@from : pass", (("from", "from", "from"), ("pass",))),
    ("when from *@* and from *@a and from a@* : pass",
     (("and", ("and", ("from", "*", "*"), ("from", "*", "a")), ("from", "a", "*")), ("pass",))),
    ("when sealed or@and : refuse pass", (("sealed", "or@and"), ("refuse", "pass"))),
    ("when over 60 : pass", (("over", 60), ("pass",))),
    ("when over 0 : pass", (("over", 0), ("pass",))),
    ("when over 9 : pass", (("over", 9), ("pass",))),
    ("when board " + "a" * 60 + " : hold", (("board", "a" * 60), ("hold",))),
    ("when board *,!town.?,!!a".replace("!!", "!") + " : hold", (("board", "*,!town.?,!a"), ("hold",))),
)
WRONG = (
    ("", 0), (" ", 0), ("any : pass", 0), ("When any : pass", 0), ("( when any : pass )", 0), (": pass", 0),
    ("when", 1), ("when : pass", 1), ("when pass", 1), ("when and", 1), ("when or any : pass", 1), ("when )", 1),
    ("when fish : pass", 1), ("when when any : pass", 1), ("when Any : pass", 1), ("when any: pass", 1),
    ("when not", 2), ("when not : pass", 2), ("when not not", 3), ("when not and any : pass", 2), ("when any", 2),
    ("when any any : pass", 2), ("when any pass", 2), ("when any :pass", 2), ("when any not any : pass", 2),
    ("when any ) : pass", 2), ("when any ( any ) : pass", 2), ("when any and", 3), ("when any and : pass", 3),
    ("when any or or any : pass", 3), ("when any or )", 3), ("when any :", 3), ("when any : any", 3),
    ("when any : passed", 3), ("when any : :", 3), ("when any : (", 3), ("when any : pass pass", 4),
    ("when any : pass :", 4), ("when any : hold )", 4), ("when any : hold fish", 4), ("when any : refuse", 4),
    ("when any : refuse Fish", 4), ("when any : refuse fishfishf", 4), ("when any : refuse ( fish )", 4),
    ("when any : refuse a@b", 4), ("when any : refuse fish fish", 5), ("when any : send", 4), ("when any : send bob", 4),
    ("when any : send *@hill", 4), ("when any : send bob@hill x", 5), ("when any : send bob@hill@mill", 4),
    ("when (", 2), ("when ( any", 3), ("when ( any : pass", 3), ("when ( ) : pass", 2), ("when ( any ) )", 4),
    ("when ( any ) ) : pass", 4), ("when ( ( any ) : pass", 5), ("when ( any ) ( any )", 4), ("when ( any ) any", 4),
    ("when (any", 3), ("when ((any)", 5), ("when ( any and ) : pass", 4), ("when ( any ) and", 5),
    ("when word", 2), ("when word : pass", 2), ("when word ( : pass", 2), ("when word Fish : pass", 2),
    ("when word fish", 3), ("when word and any : pass", 3), ("when word not any : pass", 3), ("when word 2a : pass", 2),
    ("when over", 2), ("when over 61 : pass", 2), ("when over 06 : pass", 2), ("when over 100 : pass", 2),
    ("when over -1 : pass", 2), ("when over six : pass", 2), ("when over 00 : pass", 2), ("when over 60", 3),
    ("when board", 2), ("when board ! : pass", 2), ("when board a,,b : pass", 2), ("when board A : pass", 2),
    ("when board " + "a" * 61 + " : pass", 2), ("when board a , b : pass", 3), ("when board a", 3),
    ("when from", 2), ("when from ann : pass", 2), ("when from ann@ : pass", 2), ("when from @mill : pass", 2),
    ("when from *@*@* : pass", 2), ("when from **@mill : pass", 2), ("when from ann@mill", 3), ("when from * : pass", 2),
    ("when sealed", 2), ("when sealed *@mill : pass", 2), ("when sealed bob : pass", 2), ("when sealed bob@hill", 3),
    ("when any : refuse when any", 5), ("when any and answer or strike ) : pass", 6),
)


def bad(rows):
    try:
        read_policy(rows)
    except BadRule as error:
        return (error.row, error.at)
    return None


class ReadingTest(unittest.TestCase):
    def test_right_rows(self):
        for row, rule in RIGHT:
            self.assertEqual(read_policy((row,)), (rule,), row)
            self.assertIsNone(plainrules.bad_rule((row,)), row)
        self.assertEqual(read_policy(tuple(row for row, _ in RIGHT[:12])), tuple(rule for _, rule in RIGHT[:12]))
        self.assertEqual(read_policy(()), ())
        self.assertIs(type(read_policy(("when any : pass",))), tuple)

    def test_wrong_rows(self):
        for row, at in WRONG:
            self.assertEqual(plainrules.bad_rule((row,)), (0, at), row)
            self.assertEqual(bad((row,)), (0, at), row)

    def test_first_wrong_row(self):
        right = "when any : pass"
        for many in (0, 1, 5, 11):
            self.assertEqual(bad((right,) * many + ("when over 61 : pass",)), (many, 2))
            self.assertEqual(bad((right,) * many + ("",)), (many, 0))
        self.assertEqual(bad((right, "when", "", right)), (1, 1))
        self.assertEqual(bad(("", "when")), (0, 0))

    def test_error(self):
        with self.assertRaises(TextError):
            read_policy(("when",))

    def test_bounds(self):
        row = "when " + "( " * 12 + "any" + " )" * 12 + " : pass"
        self.assertEqual(read_policy((row,)), ((A, ("pass",)),))
        self.assertEqual(bad((row.replace(")", "", 1),)), (0, 25))
        row = "when " + "not " * 12 + "any : pass"
        self.assertEqual(write_policy(read_policy((row,))), (row,))
        row = "when " + " and ".join(["any"] * 20) + " : pass"
        self.assertEqual(write_policy(read_policy((row,))), (row,))

    def test_beginnings(self):
        """A row that ends too early is bad at its end."""
        for row, _ in RIGHT:
            tokens = plainrules.tokens_of(row)
            for many in range(len(tokens)):
                told = bad((" ".join(tokens[:many]),))
                self.assertEqual(told, (0, many), tokens[:many])
            self.assertEqual(read_policy((" ".join(tokens),)), read_policy((row,)))

    def test_spoilt_rows(self):
        chance = random.Random(31)
        words = ("when", "any", "and", "or", "not", "(", ")", ":", "word", "over", "60", "61", "fish", "*@*", "a@b", "pass",
                 "refuse", "send", "board", "*,!a", "", "answer")
        for _ in range(3000):
            policy = random_policy(chance, most=3)
            rows = [row.split(" ") for row in write_policy(policy)]
            if not rows:
                continue
            row = chance.choice(rows)
            at = chance.randrange(len(row))
            row[at:at + chance.randrange(2)] = [chance.choice(words)] * chance.randrange(2)
            rows = tuple(" ".join(row) for row in rows)
            self.assertEqual(bad(rows), plainrules.bad_rule(rows), rows)
