"""What becomes of the tables of a site by letters that are made there or have come."""

from criermoot.books import carries
from criermoot.letters import note_to
from criermoot.names import split_address
from criermoot.routes import next_site
from criermoot.stewards import decided
from criermoot.taking import take_notice


def end_submission(tables, clock, notice):
    """The letters that are made when a submitted notice is out."""
    letters = []
    if carries(tables.book, tables.name, notice[4]):
        letters.extend(take_notice(tables, clock, 0, notice))
    return letters + [note_to(notice, ("out",))]


def do_fate(tables, clock, letter, fate):
    """The letters that are made by what becomes of a submission."""
    notice = letter[3][1]
    if fate[0] == "on":
        return [fate[1]]
    if fate[0] == "out":
        return end_submission(tables, clock, fate[1])
    if fate[0] == "refused":
        return [note_to(notice, fate)]
    tables.submissions[(letter[2], notice[1])] = letter
    return []


def at_goal(tables, clock, letter):
    """The letters that are made by a letter that is at its goal."""
    goal, load = letter[2:]
    if load[0] == "submit":
        return do_fate(tables, clock, letter, decided(tables.book, letter, clock))
    if load[0] == "copy":
        return list(tables.desk.hear(letter))
    tables.notes.setdefault(goal, []).append(load[1:])
    return []


def on_its_way(tables, letter):
    """The letters that are made by a letter that is not at its goal; it comes to a queue, if there is a way."""
    _, key, goal, load = letter
    step = next_site(tables.book, tables.name, split_address(goal)[1])
    if step is None:
        return [note_to(load[1], ("refused", "nowhere"))] if load[0] == "submit" else []
    if key not in tables.queues[step]:
        tables.queues[step].append(key)
        tables.letters[key] = letter
    return []


def handle_letters(tables, clock, letters):
    """Handles letters in order, and behind them those that are made by this."""
    left = list(letters)
    while left:
        letter = left.pop(0)
        if split_address(letter[2])[1] == tables.name:
            left.extend(at_goal(tables, clock, letter))
        else:
            left.extend(on_its_way(tables, letter))
