"""Writing policies, with as few parentheses as reading needs."""


def basic_text(test):
    """The tokens of a basic test."""
    if test[0] == "from":
        return f"from {test[1]}@{test[2]}"
    if len(test) == 1:
        return test[0]
    return f"{test[0]} {test[1]}"


def within(test, words):
    """The tokens of a test, in parentheses if it begins with one of these words."""
    if test[0] in words:
        return f"( {write_test(test)} )"
    return write_test(test)


def write_test(test):
    """The tokens of a test in one row."""
    if test[0] == "not":
        return "not " + within(test[1], ("and", "or"))
    # Reading joins to the left, so that only the second test needs parentheses around the same join.
    if test[0] == "and":
        return within(test[1], ("or",)) + " and " + within(test[2], ("and", "or"))
    if test[0] == "or":
        return within(test[1], ()) + " or " + within(test[2], ("or",))
    return basic_text(test)


def write_policy(policy):
    """The rows of a policy."""
    return tuple([f"when {write_test(test)} : " + " ".join(verdict) for test, verdict in policy])
