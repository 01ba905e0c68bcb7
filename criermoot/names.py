"""Names, addresses, boards and ids, and the words of a row."""

from criermoot.signs import DIGITS, LETTERS, number_of

LONGEST_NAME = 8
LONGEST_BOARD = 600
LAST_NUMBER = 999999


def is_word(text):
    """Whether a string is a letter, followed by letters and digits."""
    if text == "" or text[0] not in LETTERS:
        return False
    return all([sign in LETTERS or sign in DIGITS for sign in text])


def is_name(text):
    """Whether a string is a name."""
    return len(text) <= LONGEST_NAME and is_word(text)


def is_address(text):
    """Whether a string is an address: a person, the sign @, and a site."""
    person, _, place = text.partition("@")
    return is_name(person) and is_name(place)


def is_board(text):
    """Whether a string is a board."""
    return len(text) <= LONGEST_BOARD and all([is_word(word) for word in text.split(".")])


def is_id(id):
    """Whether a pair of a string and an integer is an id."""
    return is_name(id[0]) and 1 <= id[1] <= LAST_NUMBER


def id_text(id):
    """The text of an id."""
    return f"{id[1]}@{id[0]}"


def id_of(text):
    """The id of such a text, None for any other string."""
    digits, _, place = text.partition("@")
    number = number_of(digits, len(str(LAST_NUMBER)))
    if number is None or not is_id((place, number)):
        return None
    return (place, number)


def split_address(address):
    """The person and the site of an address."""
    person, _, place = address.partition("@")
    return (person, place)


def words_of(row):
    """The words of a row, in order, also repeated ones."""
    words = []
    word = ""
    # The blank behind the row ends a word that goes up to its end.
    for sign in row.lower() + " ":
        if sign in LETTERS or sign in DIGITS:
            word = word + sign
        elif word != "":
            words.append(word)
            word = ""
    return tuple(words)
