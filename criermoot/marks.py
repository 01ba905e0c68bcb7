"""The mark by which a text is known to be whole."""


def mark_of(rows):
    """The mark of a tuple of rows."""
    mark = 7
    for row in rows:
        for sign in row:
            mark = (131 * mark + ord(sign)) % 1000003
        mark = (131 * mark + 10) % 1000003
    return mark
