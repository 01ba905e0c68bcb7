"""What becomes of the tables of a site when it takes notices, and when it forgets."""

from criermoot.books import carries, feed_of
from criermoot.feeds import passes
from criermoot.names import id_text
from criermoot.notices import size_of
from criermoot.patterns import lets
from criermoot.rights import has_right
from criermoot.views import is_over


def end_number(tables, board, number):
    """Lets a number of a board be gone, unless it is already."""
    story = tables.stories[board]
    if story.has_number(number):
        story.gone(number)


def end_numbers(tables, id):
    """Lets the numbers of an id be gone."""
    for board, number in tables.places.get(id, {}).items():
        end_number(tables, board, number)


def give_number(tables, board, id):
    """Gives an id the next number of a board."""
    number = tables.counts.get(board, 0) + 1
    tables.counts[board] = number
    tables.places[id][board] = number
    story = tables.story_of(board)
    tables.stories[board] = story
    story.new(number, id)


def give_numbers(tables, clock, notice):
    """Gives a notice its numbers; what it has from an earlier time is gone."""
    id = notice[1]
    end_numbers(tables, id)
    tables.places[id] = {}
    for board in notice[4]:
        if lets(tables.entry[5], board):
            give_number(tables, board, id)
    if is_over(tables.entry, notice, clock):
        end_numbers(tables, id)


def hide(tables, id):
    """Hides a notice of the shelf."""
    tables.hidden[id] = True
    end_numbers(tables, id)


def is_marked(tables, notice):
    """Whether one of the marks has the right to hide a notice."""
    others = [tables.shelf[other][1] for other, id in tables.marks.items() if id == notice[1]]
    return any([has_right(tables.book, other, notice) for other in others])


def hide_named(tables, notice):
    """Hides the notice that this one names and has the right to hide, if it is on the shelf."""
    _, other = tables.shelf.get(notice[7][1], (0, None))
    if other is not None and has_right(tables.book, notice, other):
        hide(tables, other[1])


def takers_of(tables, notice, hops):
    """The neighbours that carry a notice and to which feeds pass it at these hops, ascending."""
    size = size_of(notice)
    found = []
    for other in tables.queues:
        feed = feed_of(tables.book, tables.name, other)
        if feed is not None and passes(feed, notice[4], size, hops) and carries(tables.book, other, notice[4]):
            found.append(other)
    return found


def queue_notice(tables, notice, hops):
    """Puts a notice at these hops into the queues in which it is to be and is not."""
    key = id_text(notice[1])
    for other in takers_of(tables, notice, hops):
        if key not in tables.queues[other]:
            tables.queues[other].append(key)


def count_taking(tables, notice, hops):
    """Keeps for ever that a notice was taken at these hops."""
    least, times = tables.ever.get(notice[1], (hops, 0))
    tables.ever[notice[1]] = (min(least, hops), times + 1)
    if hops == 0:
        tables.posts.append(notice)


def take_notice(tables, clock, hops, notice):
    """Takes a notice; the letters that the lists of the site send for it."""
    tables.known_ids[notice[1]] = (hops, clock)
    tables.shelf[notice[1]] = (hops, notice)
    count_taking(tables, notice, hops)
    if notice[7][0] != "strike":
        give_numbers(tables, clock, notice)
    if notice[1] in tables.hidden or is_marked(tables, notice):
        hide(tables, notice[1])
    if notice[7][0] != "post":
        hide_named(tables, notice)
        tables.marks[notice[1]] = notice[7][1]
    queue_notice(tables, notice, hops)
    return tables.desk.take(notice)


def lower_hops(tables, id, hops):
    """Lowers the hops of a known notice, and hands it on once more."""
    _, clock = tables.known_ids[id]
    _, notice = tables.shelf[id]
    least, times = tables.ever[id]
    tables.known_ids[id] = (hops, clock)
    tables.shelf[id] = (hops, notice)
    tables.ever[id] = (min(least, hops), times)
    queue_notice(tables, notice, hops)


def end_terms(tables, clock):
    """Lets the numbers be gone whose terms are over; whether there are any."""
    over = [(board, number) for board, story in tables.stories.items() for number, id in story.pairs()
            if is_over(tables.entry, tables.shelf[id][1], clock)]
    for board, number in over:
        end_number(tables, board, number)
    return len(over) > 0


def forget_ids(tables, clock):
    """Forgets the ids that were taken too long ago; whether there are any."""
    old = [id for id, (_, taken) in tables.known_ids.items() if clock > taken + tables.entry[3]]
    for id in old:
        del tables.known_ids[id]
        tables.marks.pop(id, None)
    return len(old) > 0


def is_queued(tables, id):
    """Whether a notice is in a queue."""
    key = id_text(id)
    return any([key in queue for queue in tables.queues.values()])


def clear_shelf(tables, clock):
    """Takes from the shelf what need not stay there; whether there is anything."""
    old = [id for id, (_, notice) in tables.shelf.items()
           if id not in tables.known_ids and is_over(tables.entry, notice, clock) and not is_queued(tables, id)]
    for id in old:
        del tables.shelf[id]
        tables.hidden.pop(id, None)
        tables.places.pop(id, None)
    return len(old) > 0


def forget(tables, clock):
    """Forgets as at a tick; whether anything changes."""
    changes = [end_terms(tables, clock), forget_ids(tables, clock), clear_shelf(tables, clock)]
    return any(changes)
