"""What a disk keeps, and the writes that add to it or renew it.

The end of a disk is a tuple of the number of the main area, its generation, the number of its
deeds and the place behind them; without a main area of the first area, generation 1, no deeds and
the place 0.
"""

from criermoot.areas import main_area
from criermoot.blocks import deed_blocks

FIRST_END = (0, 1, 0, 0)


def content(disk):
    """The content of a disk."""
    main = main_area(disk)
    if main is None:
        return ()
    values = main[2]
    return values[0] + tuple(values[1:])


def end_of(disk):
    """The end of a disk."""
    main = main_area(disk)
    if main is None:
        return FIRST_END
    return (main[0], main[1], len(main[2]), main[3])


def writes_at(area, place, blocks):
    """The writes that put blocks into an area from a place on."""
    return tuple([(area, place + number, block) for number, block in enumerate(blocks)])


def adding_writes(end, value):
    """The writes that add a value to a disk with this end."""
    area, generation, deeds, place = end
    if deeds > 0:
        return writes_at(area, place, deed_blocks(generation, deeds, value))
    return writes_at(area, place, deed_blocks(generation, 0, ()) + deed_blocks(generation, 1, value))


def renewing_writes(end, values):
    """The writes that renew a disk with this end."""
    area, generation, deeds, _ = end
    if deeds > 0:
        return writes_at(1 - area, 0, deed_blocks(generation + 1, 0, values))
    return writes_at(area, 0, deed_blocks(generation, 0, values))


def added(disk, value):
    """The writes that add a value to a disk."""
    return adding_writes(end_of(disk), value)


def renewed(disk, values):
    """The writes that renew a disk with a tuple of values."""
    return renewing_writes(end_of(disk), values)


def put_block(area, place, block):
    """Puts a block at a place of an area that is a list, or behind its last one."""
    if place == len(area):
        area.append(block)
    else:
        area[place] = block


def written(disk, writes, count, torn=0):
    """The disk after the first so many of the writes, with the next one torn if torn is 1 and there is one."""
    areas = (list(disk[0]), list(disk[1]))
    for area, place, block in writes[:count]:
        put_block(areas[area], place, block)
    if torn == 1:
        for area, place, _ in writes[count:count + 1]:
            put_block(areas[area], place, None)
    return (tuple(areas[0]), tuple(areas[1]))
