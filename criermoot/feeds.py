"""Feeds, which carry notices from site to site."""

from criermoot.patterns import lets_one


def passes(feed, boards, size, hops):
    """Whether the feed passes a notice with these boards and this size at these hops."""
    return lets_one(feed[3], boards) and size <= feed[5] and hops + 1 <= feed[4]
