"""A right book, which tests bend."""

PARTS = ("word", "window", "waits", "sites", "lines", "feeds", "stewards", "lists")
POLICY = (
    (("and", ("or", ("answer",), ("word", "fish")), ("not", ("from", "*", "mill"))), ("refuse", "fish")),
    (("board", "town.sale,!a"), ("send", "bob@hill")),
    (("over", 60), ("hold",)),
    (("sealed", "bob@hill"), ("pass",)),
)
BOOK = (
    "book", 50, (1, 8),
    (("site", "hill", 0, 60, 90, "*"), ("site", "mill", 3, 60, 90, "town.*"), ("site", "quay", 50, 0, 99999, "*,!x")),
    (("hill", "mill"), ("hill", "quay")),
    (("feed", "hill", "mill", "town.*", 3, 9), ("feed", "mill", "hill", "*", 9, 99), ("feed", "quay", "hill", "a", 1, 1)),
    (("steward", "town.sale*", "ann@mill", POLICY), ("steward", "town.*", "bob@hill", ()),
     ("steward", "*.x", "cid@hill", ((("any",), ("hold",)),))),
    (("list", "all@mill", None, ("bob@hill", "eve@quay", "all@mill")), ("list", "few@mill", "town.fish", ()),
     ("list", "old@mill", None, ("all@mill",)), ("list", "few@hill", "town.fish", ("ann@mill",))),
)


def book(**parts):
    """The right book, but for the parts that are passed."""
    assert not set(parts) - set(PARTS)
    return tuple(parts.get(name, part) for name, part in zip(PARTS, BOOK))


def site(name="hill", offset=0, memory=60, term=90, pattern="*"):
    return ("site", name, offset, memory, term, pattern)


def feed(giver="hill", taker="mill", pattern="*", hops=1, size=1):
    return ("feed", giver, taker, pattern, hops, size)
