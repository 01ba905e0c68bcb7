"""What becomes of the notices that are submitted to stewards."""

from criermoot.books import policy_of
from criermoot.judging import verdict_at
from criermoot.letters import submission, submitted_to
from criermoot.names import split_address
from criermoot.routes import distance


def is_late(book, notice, clock):
    """Whether a notice is too old at a clock."""
    return notice[3] < clock - book[1]


def passed(book, notice, needed):
    """What becomes of a notice that gets the needed seal."""
    sealed = notice[:8] + (notice[8] + (needed,),) + notice[9:]
    letter = submission(book, sealed)
    return ("out", sealed) if letter is None else ("on", letter)


def sent_on(book, letter, address):
    """What becomes of a submission that the steward at its goal sends on to an address."""
    goal, load = letter[2:]
    _, notice, needed, seen = load
    if policy_of(book, address) is None:
        return ("refused", "nobody")
    if address == goal or address in seen:
        return ("refused", "ring")
    return ("on", submitted_to(notice, address, needed, seen + (goal,)))


def decided(book, letter, clock, verdict=None):
    """What becomes of a submission at its goal, by this verdict, or by the policy of the steward if it is None."""
    goal, load = letter[2:]
    notice = load[1]
    if is_late(book, notice, clock):
        return ("refused", "late")
    told = verdict_at(book, goal, notice) if verdict is None else verdict
    if told[0] == "pass":
        return passed(book, notice, load[2])
    if told[0] == "refuse":
        return ("refused", told[1])
    if told[0] == "send":
        return sent_on(book, letter, told[1])
    return ("hold",)


def by_hand(book, letter, hands):
    """What becomes of a held submission by the first hands at its goal, taken from a list; hold if they do not do."""
    fate = ("hold",)
    while fate == ("hold",):
        numbers = [number for number, hand in enumerate(hands) if hand[0] == letter[2]]
        if not numbers:
            return fate
        _, verdict = hands.pop(numbers[0])
        fate = decided(book, letter, letter[3][1][3], verdict)
    return fate


def plain_end(book, notice, hands=()):
    """What comes of a notice that needs seals and has none, if nothing is late."""
    left = list(hands)
    _, here = split_address(notice[2])
    letter = submission(book, notice)
    while True:
        goal = letter[2]
        _, place = split_address(goal)
        if distance(book, here, place) is None:
            return ("refused", "nowhere")
        # At the clock of its date nothing is late.
        fate = decided(book, letter, notice[3])
        if fate == ("hold",):
            fate = by_hand(book, letter, left)
        if fate == ("hold",):
            return ("held", goal)
        if fate[0] == "out":
            return ("out", fate[1], place)
        if fate[0] == "refused":
            return fate
        letter, here = fate[1], place
