"""What tests and policies come to under facts.

Under facts a test is 1 if it holds, 0 if it fails, and None if it is open.
"""


def truths_of(facts):
    """The truth of each test of some facts; a test that they have with both is taken to hold."""
    truths = {}
    for test, truth in facts:
        truths[test] = max(truth, truths.get(test, 0))
    return truths


def both_hold(one, two):
    """Whether two tests hold that are so, as told above."""
    if one == 0 or two == 0:
        return 0
    return 1 if one == 1 and two == 1 else None


def turned(one):
    """What the opposite of a test is."""
    return None if one is None else 1 - one


def truth_under(test, truths):
    """What a test is under facts with these truths."""
    word = test[0]
    if word == "not":
        return turned(truth_under(test[1], truths))
    if word == "and":
        return both_hold(truth_under(test[1], truths), truth_under(test[2], truths))
    if word == "or":
        # One of them holds just if it is not so that both fail.
        return turned(both_hold(turned(truth_under(test[1], truths)), turned(truth_under(test[2], truths))))
    if word == "any":
        return 1
    return truths.get(test)


def first_rule(policy, truths):
    """The number of the first rule whose test does not fail, and what this test is; None if all fail."""
    for number, rule in enumerate(policy):
        truth = truth_under(rule[0], truths)
        if truth != 0:
            return (number, truth)
    return None


def open_basic(test, truths):
    """The first basic test within an open test that leaves it open."""
    if test[0] not in ("not", "and", "or"):
        return test
    inner = [one for one in test[1:] if truth_under(one, truths) is None]
    return open_basic(inner[0], truths)


def open_test(policy, truths):
    """A basic test that leaves open which rule of a policy decides, None if nothing is left open."""
    rule = first_rule(policy, truths)
    if rule is None or rule[1] == 1:
        return None
    return open_basic(policy[rule[0]][0], truths)


def verdict_under(policy, truths):
    """The verdict to which a policy comes, None if that is open."""
    rule = first_rule(policy, truths)
    if rule is None:
        return ("pass",)
    return policy[rule[0]][1] if rule[1] == 1 else None


def basics_in(test):
    """The basic tests in a test, in order, also repeated ones."""
    if test[0] not in ("not", "and", "or"):
        return (test,)
    found = ()
    for inner in test[1:]:
        found = found + basics_in(inner)
    return found


def basic_tests(policies):
    """The different basic tests of some policies."""
    found = {}
    for policy in policies:
        for rule in policy:
            for test in basics_in(rule[0]):
                found[test] = True
    return tuple(found)
