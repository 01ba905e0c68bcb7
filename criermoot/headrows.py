"""Folding of long rows, and joining them again."""


def fold_place(text, width):
    """The place at which a text that is too long is folded, -1 if there is none."""
    place = text.rfind(" ", 1, width + 1)
    if place == -1:
        place = text.find(" ", width + 1)
    return place


def fold(text, width):
    """The tuple of rows of a folded row."""
    rows = []
    while len(text) > width:
        place = fold_place(text, width)
        if place == -1:
            break
        rows.append(text[:place])
        text = text[place:]
    rows.append(text)
    return tuple(rows)


def unfold(rows):
    """The rows joined together."""
    return "".join(rows)
