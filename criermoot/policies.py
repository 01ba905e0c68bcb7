"""What a policy must keep."""

from criermoot.names import is_address, is_name
from criermoot.patterns import is_pattern

MOST_RULES = 12
LAST_OVER = 60


def is_name_or_any(text):
    """Whether a string is a name, or stands for any name."""
    return text == "*" or is_name(text)


def is_basic_test(test):
    """Whether a tuple is a basic test."""
    if len(test) == 1:
        return test[0] in ("any", "answer", "strike", "replace")
    if test[0] == "from":
        return len(test) == 3 and is_name_or_any(test[1]) and is_name_or_any(test[2])
    if len(test) != 2:
        return False
    if test[0] == "board":
        return is_pattern(test[1])
    if test[0] == "word":
        return is_name(test[1])
    if test[0] == "over":
        return 0 <= test[1] <= LAST_OVER
    return test[0] == "sealed" and is_address(test[1])


def is_test(test):
    """Whether a tuple is a test."""
    if test[0] in ("not", "and", "or"):
        wanted = 2 if test[0] == "not" else 3
        return len(test) == wanted and all([is_test(inner) for inner in test[1:]])
    return is_basic_test(test)


def is_verdict(verdict):
    """Whether a tuple is a verdict."""
    if len(verdict) == 1:
        return verdict[0] in ("pass", "hold")
    if len(verdict) != 2:
        return False
    if verdict[0] == "refuse":
        return is_name(verdict[1])
    return verdict[0] == "send" and is_address(verdict[1])


def is_policy(policy):
    """Whether a tuple of pairs is a policy."""
    return len(policy) <= MOST_RULES and all([is_test(rule[0]) and is_verdict(rule[1]) for rule in policy])
