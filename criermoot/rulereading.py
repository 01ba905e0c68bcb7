"""Reading policies, row by row and token by token."""

from criermoot.errors import BadRule
from criermoot.names import is_address, is_name
from criermoot.patterns import is_pattern
from criermoot.policies import LAST_OVER, is_name_or_any
from criermoot.signs import number_of

SIGNS = "()"
LONE_WORDS = ("any", "answer", "strike", "replace")


def tokens_of(row):
    """The tokens of a row."""
    for sign in SIGNS:
        row = row.replace(sign, f" {sign} ")
    return [token for token in row.split(" ") if token != ""]


def is_who(token):
    """Whether a token tells whom a notice is from."""
    person, _, place = token.partition("@")
    return is_name_or_any(person) and is_name_or_any(place)


class RuleReader:
    """The tokens of a row of a policy, which are read from the first one on."""

    def __init__(self, row, tokens):
        self.row = row
        self.tokens = tokens
        self.at = 0

    def token(self):
        """The token at the place that was reached, the empty string behind the last one."""
        return self.tokens[self.at] if self.at < len(self.tokens) else ""

    def keep(self, holds):
        """Tells that something must hold of the token at the place that was reached; goes on behind it."""
        if not holds:
            raise BadRule(self.row, self.at)
        self.at += 1

    def read_name(self):
        """A name."""
        self.keep(is_name(self.token()))
        return self.tokens[self.at - 1]

    def read_address(self):
        """An address."""
        self.keep(is_address(self.token()))
        return self.tokens[self.at - 1]

    def read_pattern(self):
        """A pattern."""
        self.keep(is_pattern(self.token()))
        return self.tokens[self.at - 1]

    def read_from(self):
        """The test that is told by the token behind the word from."""
        self.keep(is_who(self.token()))
        person, _, place = self.tokens[self.at - 1].partition("@")
        return ("from", person, place)

    def read_number(self):
        """A number that can stand in a test."""
        number = number_of(self.token(), len(str(LAST_OVER)))
        self.keep(number is not None and number <= LAST_OVER)
        return number

    def read_basic(self):
        """A basic test."""
        word = self.token()
        self.keep(word in LONE_WORDS or word in ("board", "from", "word", "over", "sealed"))
        if word == "board":
            return ("board", self.read_pattern())
        if word == "from":
            return self.read_from()
        if word == "word":
            return ("word", self.read_name())
        if word == "over":
            return ("over", self.read_number())
        if word == "sealed":
            return ("sealed", self.read_address())
        return (word,)

    def read_one(self):
        """A test in which no other one is joined, but within parentheses."""
        if self.token() == "not":
            self.at += 1
            return ("not", self.read_one())
        if self.token() != "(":
            return self.read_basic()
        self.at += 1
        found = self.read_test()
        self.keep(self.token() == ")")
        return found

    def read_both(self):
        """Such tests, joined by and."""
        found = self.read_one()
        while self.token() == "and":
            self.at += 1
            found = ("and", found, self.read_one())
        return found

    def read_test(self):
        """Such tests, joined by or."""
        found = self.read_both()
        while self.token() == "or":
            self.at += 1
            found = ("or", found, self.read_both())
        return found

    def read_verdict(self):
        """A verdict."""
        word = self.token()
        self.keep(word in ("pass", "hold", "refuse", "send"))
        if word == "refuse":
            return ("refuse", self.read_name())
        if word == "send":
            return ("send", self.read_address())
        return (word,)

    def read_rule(self):
        """The rule of the whole row."""
        self.keep(self.token() == "when")
        test = self.read_test()
        self.keep(self.token() == ":")
        told = self.read_verdict()
        # Behind a verdict no further token can stand.
        if self.at < len(self.tokens):
            raise BadRule(self.row, self.at)
        return (test, told)


def read_policy(rows):
    """The policy of a tuple of rows; raises BadRule."""
    found = []
    for number, row in enumerate(rows):
        found.append(RuleReader(number, tokens_of(row)).read_rule())
    return tuple(found)
