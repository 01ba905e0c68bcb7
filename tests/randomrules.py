"""Tests, facts and policies made by chance."""

BASICS = (
    ("any",), ("answer",), ("strike",), ("replace",), ("board", "a*"), ("board", "a"), ("board", "*,!a*"),
    ("board", "town.*,!town.x"), ("from", "*", "*"), ("from", "ann", "*"), ("from", "*", "mill"), ("from", "ann", "mill"),
    ("from", "bob", "mill"), ("word", "fish"), ("word", "and"), ("over", 0), ("over", 3), ("over", 60), ("over", 21),
    ("sealed", "bob@hill"), ("sealed", "ann@mill"),
)
VERDICTS = (("pass",), ("hold",), ("refuse", "fish"), ("refuse", "when"), ("send", "bob@hill"))


def random_test(chance, basics=BASICS, depth=4):
    word = chance.choice(("not", "and", "or", "basic", "basic")) if depth else "basic"
    if word == "basic":
        return chance.choice(basics)
    return (word,) + tuple(random_test(chance, basics, depth - 1) for _ in range(1 if word == "not" else 2))


def random_policy(chance, basics=BASICS, most=4, depth=3, verdicts=VERDICTS):
    return tuple((random_test(chance, basics, depth), chance.choice(verdicts)) for _ in range(chance.randrange(most + 1)))


def random_facts(chance, most=12, basics=BASICS):
    return tuple((chance.choice(basics), chance.choice((0, 1))) for _ in range(chance.randrange(most + 1)))
