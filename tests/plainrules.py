"""The grammar of rules, facts and cases as the document defines them, without any haste."""

import itertools
import re

from tests import plainpatterns

NAME = "[a-z][a-z0-9]{0,7}"
PARTS = {
    "refuse": NAME, "send": f"{NAME}@{NAME}", "word": NAME, "sealed": f"{NAME}@{NAME}", "over": "[0-9]|[1-5][0-9]|60",
    "from": rf"({NAME}|\*)@({NAME}|\*)",
}
LONE = ("any", "answer", "strike", "replace")


def tokens_of(row):
    return re.findall(r"[()]|[^() ]+", row)


def may_follow(tokens):
    """A function that tells which tokens can follow on the beginning of a rule."""
    if not tokens:
        return lambda token: token == "when"
    last = tokens[-1]
    # A word of the grammar that stands where a part is wanted is that part, as in `word and`.
    wanted = len(tokens) > 1 and wants_part(tokens[:-1])
    if not wanted and last == "board":
        return plainpatterns.is_pattern
    if not wanted and last in PARTS:
        return lambda token: re.fullmatch(PARTS[last], token) is not None
    if not wanted and last in ("when", "not", "and", "or", "("):
        return lambda token: token in ("not", "(", "board", "from", "word", "over", "sealed") + LONE
    if not wanted and last == ":":
        return lambda token: token in ("pass", "hold", "refuse", "send")
    if ":" in tokens:
        return lambda token: False
    depth = tokens.count("(") - tokens.count(")")
    return lambda token: token in ("and", "or") + ((")",) if depth else (":",))


def wants_part(tokens):
    """Whether the beginning of a rule ends in a word behind which a part is wanted."""
    if tokens[-1] not in PARTS and tokens[-1] != "board":
        return False
    return len(tokens) == 1 or not wants_part(tokens[:-1])


def bad_token(row):
    """The number of the first bad token of a row, None if it is a rule."""
    tokens = tokens_of(row)
    for at, token in enumerate(tokens):
        if not may_follow(tokens[:at])(token):
            return at
    whole = ":" in tokens and not may_follow(tokens)("pass") and not wants_part(tokens)
    return None if whole else len(tokens)


def bad_rule(rows):
    """The pair of the first row that is no rule and of its bad token, None if there is none."""
    for number, row in enumerate(rows):
        at = bad_token(row)
        if at is not None:
            return (number, at)
    return None


def basics(test):
    if test[0] in ("not", "and", "or"):
        return [one for inner in test[1:] for one in basics(inner)]
    return [test]


def under(test, facts):
    """What a test is under facts: 1, 0, or None if it is open."""
    if test[0] == "not":
        return {1: 0, 0: 1, None: None}[under(test[1], facts)]
    if test[0] in ("and", "or"):
        told = [under(inner, facts) for inner in test[1:]]
        strong = 0 if test[0] == "and" else 1
        if strong in told:
            return strong
        return None if None in told else 1 - strong
    if test == ("any",) or (test, 1) in facts:
        return 1
    return 0 if (test, 0) in facts else None


def comes_to(policy, facts):
    for test, verdict in policy:
        told = under(test, facts)
        if told is None:
            return None
        if told == 1:
            return verdict
    return ("pass",)


def names_fit(facts):
    tests = [(test, truth) for test, truth in facts if test[0] == "from"]
    people = {test[1] for test, _ in tests} - {"*"} | {"x0"}
    sites = {test[2] for test, _ in tests} - {"*"} | {"x0"}
    return any(all((test[1] in ("*", person) and test[2] in ("*", site)) == bool(truth) for test, truth in tests)
               for person in people for site in sites)


def boards_fit(facts):
    tests = [(test[1], truth) for test, truth in facts if test[0] == "board"]
    sights = [seen for seen, _ in plainpatterns.atoms(tuple(pattern for pattern, _ in tests))]
    for many in (1, 2, 3):
        for chosen in itertools.combinations(sights, many):
            if all(any(seen[number] for seen in chosen) == bool(truth) for number, (_, truth) in enumerate(tests)):
                return True
    return False


def is_possible(facts):
    """Whether a notice fits the facts, by the ways that the document names."""
    held = {test for test, truth in facts if truth}
    failed = {test for test, truth in facts if not truth}
    if held & failed or ("any",) in failed or {("strike",), ("replace",)} <= held or ("over", 0) in failed:
        return False
    if any(one[1] <= other[1] for one in failed for other in held if one[0] == other[0] == "over"):
        return False
    return len([test for test in held if test[0] == "sealed"]) <= 8 and names_fit(facts) and boards_fit(facts)


def cases(tests):
    """All facts that tell a truth of each of some tests, and that a notice fits."""
    for truths in itertools.product((1, 0), repeat=len(tests)):
        facts = tuple(zip(tests, truths))
        if is_possible(facts):
            yield facts
