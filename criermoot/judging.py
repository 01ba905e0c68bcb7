"""Judging a notice by a policy."""

from criermoot.books import policy_of
from criermoot.names import split_address, words_of
from criermoot.notices import size_of
from criermoot.patterns import lets_one


def is_from(person, place, author):
    """Whether an author has this name and this site, where * stands for any."""
    own_person, own_place = split_address(author)
    return person in ("*", own_person) and place in ("*", own_place)


def holds_basic(test, notice):
    """Whether a basic test holds for a notice."""
    word = test[0]
    if word == "answer":
        return len(notice[6]) > 0
    if word in ("strike", "replace"):
        return notice[7][0] == word
    if word == "board":
        return lets_one(test[1], notice[4])
    if word == "from":
        return is_from(test[1], test[2], notice[2])
    if word == "word":
        return test[1] in words_of(notice[5])
    if word == "over":
        return size_of(notice) > test[1]
    if word == "sealed":
        return test[1] in notice[8]
    return word == "any"


def holds(test, notice):
    """Whether the test holds for the notice."""
    word = test[0]
    if word == "not":
        return not holds(test[1], notice)
    if word == "and":
        return holds(test[1], notice) and holds(test[2], notice)
    if word == "or":
        return holds(test[1], notice) or holds(test[2], notice)
    return holds_basic(test, notice)


def verdict(policy, notice):
    """The verdict of the policy for the notice."""
    for rule in policy:
        if holds(rule[0], notice):
            return rule[1]
    return ("pass",)


def verdict_at(book, address, notice):
    """The verdict of the policy of a steward for the notice."""
    return verdict(policy_of(book, address), notice)
