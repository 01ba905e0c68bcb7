"""Items of a pattern that are needless."""

from criermoot.parting import compared_patterns
from criermoot.patterns import items_of, write_pattern


def without_item(pattern, number):
    """The pattern without the item with this number."""
    items = items_of(pattern)
    return write_pattern(items[:number] + items[number + 1:])


def is_needless(pattern, number):
    """Whether a pattern with further items lets the same boards without the item with this number."""
    return compared_patterns(pattern, without_item(pattern, number))[0] == "alike"


def needless(pattern):
    """The numbers of the needless items, ascending; raises TooMany."""
    many = len(items_of(pattern))
    if many == 1:
        return ()
    return tuple([number for number in range(many) if is_needless(pattern, number)])


def leaned(pattern):
    """The pattern without the first needless item, again and again; raises TooMany."""
    numbers = needless(pattern)
    while numbers:
        pattern = without_item(pattern, numbers[0])
        numbers = needless(pattern)
    return pattern
