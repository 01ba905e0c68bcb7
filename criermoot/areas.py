"""Reading the areas of a disk."""

from criermoot.blocks import LONGEST_PIECE, value_of
from criermoot.datacodings import cut
from criermoot.errors import BadValue


def told_by_rows(rows):
    """The value whose pieces these rows are, alone in a list; an empty list if they are those of none."""
    text = "".join(rows)
    if cut(text, LONGEST_PIECE) != rows:
        return []
    try:
        return [value_of(text)]
    except BadValue:
        return []


def rows_at(area, place, generation, deed):
    """The pieces in the rows of a deed that stand in an area from a place on."""
    rows = []
    while place + len(rows) < len(area):
        block = area[place + len(rows)]
        if block is None or block[:4] != ("row", generation, deed, len(rows)):
            break
        rows.append(block[4])
    return rows


def deed_at(area, place, generation, deed):
    """The value of a deed that stands in an area from a place on, alone in a list, and the place behind it."""
    rows = rows_at(area, place, generation, deed)
    end = place + len(rows)
    if end == len(area) or area[end] != ("end", generation, deed, len(rows)):
        return ([], place)
    told = told_by_rows(rows)
    # The content begins with the things in the value of deed 0.
    if deed == 0 and told and not isinstance(told[0], tuple):
        return ([], place)
    return (told, end + 1)


def deeds_from(area, place, generation, deed):
    """The values of the deeds that go on in an area from a place and a number on, and the place behind them."""
    values = []
    told, end = deed_at(area, place, generation, deed)
    while told:
        values.extend(told)
        place = end
        told, end = deed_at(area, place, generation, deed + len(values))
    return (values, place)


def generation_of(area):
    """The generation of the first block of an area, None if there is none."""
    return area[0][1] if area and area[0] is not None else None


def main_area(disk):
    """The number of the main area, its generation, its values and the place behind their blocks; or None."""
    found = None
    for number, area in enumerate(disk):
        generation = generation_of(area)
        if generation is not None and (found is None or generation > found[1]):
            values, place = deeds_from(area, 0, generation, 0)
            if values:
                found = (number, generation, values, place)
    return found
