"""Why a site of a plain world shows a notice, or does not, with papers and their judge."""

from criermoot.books import site_of
from criermoot.plainworld import kind_of
from criermoot.reach import hops_of
from criermoot.rights import has_right
from criermoot.views import is_here, is_over
from criermoot.ways import judge_labels, judge_way, least_way


def post_of(posts, id):
    """The post of an id, None if there is none."""
    for post in posts:
        if post[1][1] == id:
            return post
    return None


def post_kind(post):
    """The kind of a post."""
    return kind_of(post[0], post[1])


def hiders(book, posts, notice):
    """The posts that have the right to hide a notice, ascending by their ids."""
    found = {post[1][1]: post for post in posts if has_right(book, post[1], notice)}
    return [found[id] for id in sorted(found)]


def why_here(book, posts, site, post):
    """The paper of a notice that can be on the board, whose term is not over, and which reaches the site."""
    way = least_way(book, post_kind(post), site)
    bars = []
    for other in hiders(book, posts, post[1]):
        other_way = least_way(book, post_kind(other), site)
        if other_way is not None:
            return ("hidden", way, other[1][1], other_way)
        bars.append((other[1][1], hops_of(book, post_kind(other))))
    return ("shown", way, tuple(bars))


def why(book, posts, clock, site, board, id):
    """A paper that tells why a site shows an id on a board at a clock, or does not."""
    post = post_of(posts, id)
    if post is None:
        return ("unknown",)
    if not is_here(site_of(book, site), post[1], board):
        return ("not here",)
    way = least_way(book, post_kind(post), site)
    if way is None:
        return ("never", hops_of(book, post_kind(post)))
    if is_over(site_of(book, site), post[1], clock):
        return ("over", way)
    return why_here(book, posts, site, post)


def judge_bar(book, site, post, labels):
    """Whether labels are right for the kind of a post, and tell that it never reaches a site."""
    names = [entry[1] for entry in book[3]]
    return judge_labels(book, post_kind(post), labels) and labels[names.index(site)] is None


def judge_hidden(book, posts, site, post, paper):
    """Whether what a paper tells of what hides a notice is right."""
    other = post_of(posts, paper[2])
    if other is None or not has_right(book, other[1], post[1]):
        return False
    return judge_way(book, post_kind(other), site, paper[3])


def judge_shown(book, posts, site, post, bars):
    """Whether bars are right, one for each notice that has the right to hide this one."""
    others = hiders(book, posts, post[1])
    if [bar[0] for bar in bars] != [other[1][1] for other in others]:
        return False
    return all([judge_bar(book, site, other, bar[1]) for other, bar in zip(others, bars)])


def judge_known(book, posts, place, post, paper):
    """Whether a paper is right that tells of a posted notice; the place is a clock, a site and a board."""
    clock, site, board = place
    word = paper[0]
    can_be = is_here(site_of(book, site), post[1], board)
    if word == "not here":
        return not can_be
    if word == "never":
        return judge_bar(book, site, post, paper[1])
    if word not in ("over", "hidden", "shown") or not judge_way(book, post_kind(post), site, paper[1]):
        return False
    over = is_over(site_of(book, site), post[1], clock)
    if word == "over":
        return over
    if word == "hidden":
        return judge_hidden(book, posts, site, post, paper)
    return can_be and not over and judge_shown(book, posts, site, post, paper[2])


def judge_why(book, posts, clock, site, board, id, paper):
    """Whether a paper is right."""
    post = post_of(posts, id)
    if paper[0] == "unknown" or post is None:
        return paper[0] == "unknown" and post is None
    return judge_known(book, posts, (clock, site, board), post, paper)
