"""Books, which describe a network: what they must keep, and what they tell."""

from criermoot.names import is_address, is_board, is_name, split_address
from criermoot.patterns import is_pattern, lets, lets_one
from criermoot.policies import is_policy
from criermoot.signs import are_different

LAST_WINDOW = 9999
LAST_WAIT = 64
MOST_SITES = 8
LAST_OFFSET = 999
LAST_MEMORY = 99999
MOST_LINES = 16
MOST_FEEDS = 24
LAST_HOPS = 9
LAST_SIZE = 99
MOST_STEWARDS = 6
MOST_LISTS = 5
MOST_MEMBERS = 8


def are_waits(waits):
    """Whether a pair of integers can be the waits of a book."""
    return len(waits) == 2 and 1 <= waits[0] <= waits[1] <= LAST_WAIT


def is_site(entry, window):
    """Whether this can be a site of a book with this window."""
    if len(entry) != 6 or entry[0] != "site" or not is_name(entry[1]):
        return False
    if not 0 <= entry[2] <= min(LAST_OFFSET, window):
        return False
    if not 0 <= entry[3] <= LAST_MEMORY or not 0 <= entry[4] <= LAST_MEMORY:
        return False
    return is_pattern(entry[5])


def are_sites(sites, window):
    """Whether these can be the sites of a book with this window."""
    if not 1 <= len(sites) <= MOST_SITES:
        return False
    return all([is_site(entry, window) for entry in sites]) and are_different([entry[1] for entry in sites])


def are_lines(lines, names):
    """Whether these can be the lines between sites with these names."""
    if len(lines) > MOST_LINES:
        return False
    for number, line in enumerate(lines):
        if len(line) != 2 or line[0] not in names or line[1] not in names or line[0] >= line[1]:
            return False
        if number > 0 and lines[number - 1] >= line:
            return False
    return True


def is_feed(entry, lines):
    """Whether this can be a feed over one of these lines."""
    if len(entry) != 6 or entry[0] != "feed":
        return False
    if (entry[1], entry[2]) not in lines and (entry[2], entry[1]) not in lines:
        return False
    return is_pattern(entry[3]) and 1 <= entry[4] <= LAST_HOPS and 1 <= entry[5] <= LAST_SIZE


def are_feeds(feeds, lines):
    """Whether these can be the feeds over these lines."""
    if len(feeds) > MOST_FEEDS or not all([is_feed(entry, lines) for entry in feeds]):
        return False
    return are_different([(entry[1], entry[2]) for entry in feeds])


def is_address_at(text, names):
    """Whether a string is an address of one of the sites with these names."""
    return is_address(text) and split_address(text)[1] in names


def is_steward(entry, names):
    """Whether this can be a steward at one of these sites."""
    if len(entry) != 4 or entry[0] != "steward":
        return False
    return is_pattern(entry[1]) and is_address_at(entry[2], names) and is_policy(entry[3])


def are_stewards(stewards, names):
    """Whether these can be the stewards at these sites."""
    if len(stewards) > MOST_STEWARDS or not all([is_steward(entry, names) for entry in stewards]):
        return False
    return are_different([entry[2] for entry in stewards])


def is_list(entry, names):
    """Whether this can be a list at one of these sites."""
    if len(entry) != 4 or entry[0] != "list" or not is_address_at(entry[1], names):
        return False
    if entry[2] is not None and not is_board(entry[2]):
        return False
    if len(entry[3]) > MOST_MEMBERS or not are_different(entry[3]):
        return False
    return all([is_address_at(member, names) for member in entry[3]])


def are_lists(lists, names, stewards):
    """Whether these can be the lists at these sites, beside these stewards."""
    if len(lists) > MOST_LISTS or not all([is_list(entry, names) for entry in lists]):
        return False
    boards = [(split_address(entry[1])[1], entry[2]) for entry in lists if entry[2] is not None]
    addresses = [entry[1] for entry in lists] + [entry[2] for entry in stewards]
    return are_different(boards) and are_different(addresses)


def wrong_part(book):
    """The wrong part of a book, None if all parts are right."""
    window, waits, sites, lines, feeds, stewards, lists = book[1:]
    names = [entry[1] for entry in sites]
    if not 1 <= window <= LAST_WINDOW:
        return "window"
    if not are_waits(waits):
        return "waits"
    if not are_sites(sites, window):
        return "sites"
    if not are_lines(lines, names):
        return "lines"
    if not are_feeds(feeds, lines):
        return "feeds"
    if not are_stewards(stewards, names):
        return "stewards"
    if not are_lists(lists, names, stewards):
        return "lists"
    return None


def site_of(book, name):
    """The entry of the site with this name, None if there is none."""
    for entry in book[3]:
        if entry[1] == name:
            return entry
    return None


def feed_of(book, giver, taker):
    """The entry of the feed from the one site to the other, None if there is none."""
    for entry in book[5]:
        if (entry[1], entry[2]) == (giver, taker):
            return entry
    return None


def neighbours(book, name):
    """The names of the neighbours of a site, ascending."""
    after = [line[1] for line in book[4] if line[0] == name]
    before = [line[0] for line in book[4] if line[1] == name]
    return tuple(sorted(after + before))


def carries(book, name, boards):
    """Whether the pattern of the site lets one of the boards."""
    entry = site_of(book, name)
    return entry is not None and lets_one(entry[5], boards)


def steward_of(book, board):
    """The address of the steward of a board, None if the board is not kept."""
    for entry in book[6]:
        if lets(entry[1], board):
            return entry[2]
    return None


def needed_seals(book, boards):
    """The seals that a notice with these boards needs, if it is no strike, in order."""
    seals = []
    for board in boards:
        address = steward_of(book, board)
        if address is not None and address not in seals:
            seals.append(address)
    return tuple(seals)


def policy_of(book, address):
    """The policy of a steward, None if the address is no steward's."""
    for entry in book[6]:
        if entry[2] == address:
            return entry[3]
    return None
