"""The deeds of a site, as values: a word, and the arguments of what is done.

Doing a deed tells whether the tables have changed.
"""

from criermoot.books import carries
from criermoot.letters import submission
from criermoot.mail import do_fate, handle_letters
from criermoot.names import id_of
from criermoot.stewards import decided
from criermoot.tables import Tables
from criermoot.taking import forget, lower_hops, take_notice


def do_post(tables, clock, person, boards, subject, refs, kind, body):
    """A person posts."""
    if not carries(tables.book, tables.name, boards):
        return False
    if kind[0] != "post" and kind[1] not in tables.shelf:
        return False
    tables.number += 1
    id = (tables.name, tables.number)
    notice = ("notice", id, f"{person}@{tables.name}", clock, boards, subject, refs, kind, (), body)
    letter = submission(tables.book, notice)
    letters = take_notice(tables, clock, 0, notice) if letter is None else (letter,)
    handle_letters(tables, clock, letters)
    return True


def do_take(tables, clock, hops, notice):
    """A notice is taken."""
    handle_letters(tables, clock, take_notice(tables, clock, hops, notice))
    return True


def do_near(tables, _, id, hops):
    """The hops of a known notice become fewer."""
    if id not in tables.known_ids or tables.known_ids[id][0] <= hops:
        return False
    lower_hops(tables, id, hops)
    return True


def do_keep(tables, clock, neighbour, key, letter):
    """A letter comes."""
    if key in tables.given[neighbour]:
        return False
    tables.given[neighbour].append(key)
    handle_letters(tables, clock, (letter,))
    return True


def do_cleared(tables, neighbour, key):
    """A neighbour clears a key."""
    if key not in tables.given[neighbour]:
        return False
    tables.given[neighbour].remove(key)
    return True


def leaves_queue(tables, key, result, hops):
    """Whether what is in a queue leaves it by a result of a talk that began at these hops."""
    id = id_of(key)
    if id is not None and result == "old":
        return True
    if result not in ("took", "have"):
        return False
    return id is None or tables.shelf[id][0] >= hops


def do_settle(tables, _, neighbour, key, result, hops):
    """A talk settles a key."""
    if result == "cleared":
        if key not in tables.uncleared[neighbour]:
            return False
        tables.uncleared[neighbour].remove(key)
        return True
    if key not in tables.queues[neighbour] or not leaves_queue(tables, key, result, hops):
        return False
    tables.queues[neighbour].remove(key)
    if id_of(key) is None:
        del tables.letters[key]
        tables.uncleared[neighbour].append(key)
    return True


def do_decide(tables, clock, address, id, verdict):
    """A verdict is given by hand."""
    letter = tables.submissions.get((address, id))
    if letter is None:
        return False
    fate = decided(tables.book, letter, clock, verdict)
    if fate == ("hold",):
        return False
    del tables.submissions[(address, id)]
    handle_letters(tables, clock, do_fate(tables, clock, letter, fate))
    return True


def do_tick(tables, clock):
    """The site forgets."""
    return forget(tables, clock)


def do_tables(tables, value):
    """The value of all tables is put in place."""
    tables.put_value(value)
    return True


DEEDS = {
    "post": do_post,
    "take": do_take,
    "near": do_near,
    "keep": do_keep,
    "cleared": do_cleared,
    "settle": do_settle,
    "decide": do_decide,
    "tick": do_tick,
    "tables": do_tables,
}


def do_deed(tables, deed):
    """Does a deed; whether the tables have changed."""
    action = DEEDS[deed[0]]
    told = deed[1:]
    return action(tables, *told)


def tables_after(book, name, deeds):
    """What deeds make of the empty tables of a site."""
    tables = Tables(book, name)
    for deed in deeds:
        do_deed(tables, deed)
    return tables
