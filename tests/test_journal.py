import random
import unittest

from criermoot.blocks import deed_blocks, value_of
from criermoot.errors import BadValue
from criermoot.journal import added, content, renewed, written
from tests import plainvalues
from tests.plainvalues import blocks

EMPTY = ((), ())
LONG = "x" * 90


def area(generation, *values):
    """An area with deeds of these values."""
    return tuple(block for deed, value in enumerate(values) for block in blocks(generation, deed, value))


def plain_deeds(told):
    """The values of the deeds of an area that count."""
    values = []
    place = 0
    generation = told[0][1] if told and told[0] is not None else None
    while True:
        for many in range(1, len(told) - place):
            rows = told[place:place + many]
            if None in rows or any(row[0] != "row" for row in rows):
                continue
            try:
                value = value_of("".join(row[4] for row in rows))
            except BadValue:
                continue
            if blocks(generation, len(values), value) == told[place:place + many + 1]:
                break
        else:
            return values, place
        if not values and not isinstance(value, tuple):
            return values, place
        values.append(value)
        place += many + 1


def plain_main(disk):
    """The number of the main area, its generation, its values, and the place behind them; None without one."""
    found = []
    for number, told in enumerate(disk):
        values, place = plain_deeds(told)
        if values:
            found.append((told[0][1], -number, values, place))
    if not found:
        return None
    generation, number, values, place = max(found, key=lambda one: one[:2])
    return (-number, generation, values, place)


def plain_content(disk):
    main = plain_main(disk)
    return () if main is None else main[2][0] + tuple(main[2][1:])


def plain_added(disk, value):
    main = plain_main(disk)
    if main is None:
        told = blocks(1, 0, ()) + blocks(1, 1, value)
        return tuple((0, place, block) for place, block in enumerate(told))
    number, generation, values, begin = main
    return tuple((number, begin + place, block) for place, block in enumerate(blocks(generation, len(values), value)))


def plain_renewed(disk, values):
    main = plain_main(disk)
    number, generation = (0, 1) if main is None else (1 - main[0], main[1] + 1)
    return tuple((number, place, block) for place, block in enumerate(blocks(generation, 0, values)))


class ContentTest(unittest.TestCase):
    def check(self, disk, told):
        self.assertEqual(plain_content(disk), told)
        self.assertEqual(content(disk), told)
        self.assertIs(type(content(disk)), tuple)

    def test_disks_that_are_not_open(self):
        self.check(EMPTY, ())
        self.check(((None,), (None, None)), ())
        self.check((blocks(1, 0, (1,))[:-1], ()), ())
        self.check((blocks(1, 0, (LONG,))[1:], ()), ())
        self.check((blocks(1, 1, (1,)), ()), ())
        self.check((blocks(1, 0, (1,))[1:], blocks(1, 0, (1,))[:1]), ())

    def test_deeds(self):
        self.check((area(1, ()), ()), ())
        self.check((area(1, (1, 2)), ()), (1, 2))
        self.check((area(1, (), 7), ()), (7,))
        self.check((area(5, (1, None), (2, 3), "x", ()), ()), (1, None, (2, 3), "x", ()))
        self.check(((), area(-3, (LONG, 1), LONG, None)), (LONG, 1, LONG, None))
        self.check((area(0, ((),)), ()), ((),))

    def test_deed_0_without_a_tuple(self):
        for value in (1, "x", None, "()"):
            self.check((area(1, value), ()), ())
            self.check((area(1, value, (1,)), area(0, (5,))), (5,))

    def test_torn_blocks(self):
        whole = area(1, (1,), LONG, 3)
        places = (2, 6, 8)
        for at in range(len(whole)):
            torn = whole[:at] + (None,) + whole[at + 1:]
            told = ((), (1,), (1, LONG), (1, LONG, 3))[sum(at >= place for place in places)]
            self.check((torn, ()), told)
            self.check((whole[:at], ()), told)
            self.check(((), whole[:at]), told)

    def test_spoilt_blocks(self):
        whole = area(4, (1,), LONG, 3)
        for at, block in enumerate(whole):
            told = ((), (1,), (1, LONG))[sum(at >= place for place in (2, 6))]
            for part in range(1, 4):
                for more in (-1, 1, 100):
                    spoilt = block[:part] + (block[part] + more,) + block[part + 1:]
                    self.check((whole[:at] + (spoilt,) + whole[at + 1:], ()), told)
            # An end that stands twice ends the reading only behind its deed.
            twice = told if block[0] == "row" else {1: (1,), 5: (1, LONG), 7: (1, LONG, 3)}[at]
            self.check((whole[:at] + (block,) + whole[at:], ()), twice)
            self.check((whole[:at] + whole[at + 1:], ()), told)

    def test_words_of_blocks(self):
        self.check(((("end", 1, 0, 0),), ()), ())
        self.check(((("end", 1, 0, 1),), ()), ())
        row, end = blocks(1, 0, (1,))
        self.check(((row, end, ("end", 1, 1, 0)), ()), (1,))
        self.check(((row, ("end", 1, 0, 1), ("end", 1, 0, 1)), ()), (1,))
        self.check(((row, row, end), ()), ())

    def test_rows_that_are_no_pieces(self):
        def disk(*rows):
            told = tuple(("row", 1, 1, place, row) for place, row in enumerate(rows))
            return (area(1, (1,)) + told + (("end", 1, 1, len(rows)),) + blocks(1, 2, 9), ())

        self.check(disk("7"), (1, 7, 9))
        self.check(disk("'" + "a" * 38 + "'"), (1, "a" * 38, 9))
        self.check(disk("'" + "a" * 39, "'"), (1, "a" * 39, 9))
        for rows in (("'a", "'"), ("'" + "a" * 38, "a'"), ("'" + "a" * 40, "'"), ("'" + "a" * 39 + "'",), ("7", ""),
                     ("",), ("7 ",), ("07",), ("(",), ("7", "7"), ("'" + "a" * 39, "'7"), ("'" + "a" * 39, "'", "")):
            self.check(disk(*rows), (1,))

    def test_two_areas(self):
        one, two = area(1, (1,), 2), area(2, (3,), 4)
        self.check((one, two), (3, 4))
        self.check((two, one), (3, 4))
        self.check((area(2, (1,), 2), two), (1, 2))
        self.check((two, area(2, (1,), 2)), (3, 4))
        self.check((one, two[:1]), (1, 2))
        self.check((one, two[:2]), (3,))
        self.check((two[:1], one), (1, 2))
        self.check((one, area(9, 5)), (1, 2))
        self.check((area(9, 5), one), (1, 2))
        self.check((area(-1, (1,)), area(-2, (2,))), (1,))
        self.check((one, (None,) + two), (1, 2))

    def test_blocks_behind(self):
        """What stands behind the last deed that goes on is left aside."""
        new, old = area(2, (1,), 2), area(0, (5, 6), 7, LONG, 9)
        for many in range(len(new) + 1):
            disk = (area(1, (3,)), new[:many] + old[many:])
            self.check(disk, (3,) if many < 2 else (1,) if many < 4 else (1, 2))

    def test_by_the_meaning(self):
        chance = random.Random(43)
        for _ in range(300):
            areas = []
            for _ in range(2):
                told = list(area(chance.randrange(3), *[plainvalues.random_value(chance) for _ in range(chance.randrange(5))]))
                for _ in range(chance.randrange(3)):
                    if told:
                        told[chance.randrange(len(told))] = chance.choice((None, chance.choice(told)))
                areas.append(tuple(told))
            disk = tuple(areas)
            self.check(disk, plain_content(disk))
            value = plainvalues.random_value(chance)
            self.assertEqual(added(disk, value), plain_added(disk, value))
            self.assertEqual(renewed(disk, (value,)), plain_renewed(disk, (value,)))


class WritesTest(unittest.TestCase):
    def test_empty_disk(self):
        self.assertEqual(added(EMPTY, 7), ((0, 0, ("row", 1, 0, 0, "()")), (0, 1, ("end", 1, 0, 1)),
                                           (0, 2, ("row", 1, 1, 0, "7")), (0, 3, ("end", 1, 1, 1))))
        self.assertEqual(renewed(EMPTY, (7,)), ((0, 0, ("row", 1, 0, 0, "(7)")), (0, 1, ("end", 1, 0, 1))))
        self.assertEqual(added(((None,), area(3, (1,))[:-1]), 7), added(EMPTY, 7))
        self.assertEqual(renewed(((None,), area(3, (1,))[:-1]), (7,)), renewed(EMPTY, (7,)))

    def test_disks_with_a_main_area(self):
        disk = (area(4, (1,), LONG), area(3, (2,)))
        self.assertEqual(added(disk, 7), ((0, 6, ("row", 4, 2, 0, "7")), (0, 7, ("end", 4, 2, 1))))
        self.assertEqual(renewed(disk, ()), ((1, 0, ("row", 5, 0, 0, "()")), (1, 1, ("end", 5, 0, 1))))
        disk = disk[::-1]
        self.assertEqual(added(disk, 7), ((1, 6, ("row", 4, 2, 0, "7")), (1, 7, ("end", 4, 2, 1))))
        self.assertEqual(renewed(disk, ()), ((0, 0, ("row", 5, 0, 0, "()")), (0, 1, ("end", 5, 0, 1))))
        torn = (area(4, (1,), LONG)[:4] + (None,), ())
        self.assertEqual(added(torn, 7), ((0, 2, ("row", 4, 1, 0, "7")), (0, 3, ("end", 4, 1, 1))))

    def test_written(self):
        disk = (area(1, (1,)), ())
        writes = added(disk, "x" * 50)
        self.assertEqual(len(writes), 3)
        told = [block for _, _, block in writes]
        for count in range(6):
            self.assertEqual(written(disk, writes, count), (disk[0] + tuple(told[:count]), ()))
            torn = (None,) if count < 3 else ()
            self.assertEqual(written(disk, writes, count, 1), (disk[0] + tuple(told[:count]) + torn, ()))
            self.assertEqual(written(disk, writes, count, torn=0), written(disk, writes, count))
        self.assertEqual(written(disk, (), 0, 1), disk)
        self.assertEqual(disk, (area(1, (1,)), ()))
        disk = (area(1, (1,)), area(0, (2,), 3))
        writes = renewed(disk, (5,))
        self.assertEqual(written(disk, writes, 0, 1), (disk[0], (None,) + disk[1][1:]))
        self.assertEqual(written(disk, writes, 1), (disk[0], (("row", 2, 0, 0, "(5)"),) + disk[1][1:]))
        self.assertEqual(written(disk, writes, 1, 1), (disk[0], (("row", 2, 0, 0, "(5)"), None) + disk[1][2:]))
        self.assertEqual(written(disk, writes, 2), (disk[0], area(2, (5,)) + disk[1][2:]))
        self.assertIs(type(written(disk, writes, 2)[0]), tuple)

    def test_example(self):
        self.assertEqual(content(written(EMPTY, added(EMPTY, 7), 4)), (7,))
        self.assertEqual(content(written(EMPTY, added(EMPTY, 7), 3)), ())


class FallsTest(unittest.TestCase):
    """[27]: a content is the old one until all writes are done, then the new one."""

    def each_fall(self, disk, old, new, writes):
        """Checks each fall in some writes; the disks that are left, with their contents."""
        left = []
        for count in range(len(writes) + 1):
            for torn in (0, 1):
                after = written(disk, writes, count, torn)
                told = new if count == len(writes) else old
                self.assertEqual(content(after), told)
                left.append((after, told))
        return left

    def each_step(self, disk, old, value):
        """Checks each fall of an addition and of a renewal."""
        left = self.each_fall(disk, old, old + (value,), added(disk, value))
        return left + self.each_fall(disk, old, (value, 1), renewed(disk, (value, 1)))

    def test_one_behind_another(self):
        level = [(EMPTY, ())]
        for value in ("x" * 50, None, ("y" * 80,)):
            behind = {}
            for disk, old in level:
                behind.update(self.each_step(disk, old, value))
            level = list(behind.items())
            self.assertGreater(len(level), 10)

    def test_by_chance(self):
        chance = random.Random(44)
        for _ in range(150):
            disk, old = EMPTY, ()
            for _ in range(12):
                value = plainvalues.random_value(chance, depth=2)
                new = old + (value,)
                writes = added(disk, value)
                if chance.random() < 0.3:
                    new = (value,) * chance.randrange(4)
                    writes = renewed(disk, new)
                count = chance.choice((len(writes), len(writes) - 1, chance.randrange(len(writes) + 1)))
                disk = written(disk, writes, count, chance.randrange(2))
                old = new if count == len(writes) else old
                self.assertEqual(content(disk), old)
                self.assertEqual(plain_content(disk), old)

    def test_blocks_of_deeds(self):
        disk = written(EMPTY, added(EMPTY, LONG), 100)
        self.assertEqual(disk, (deed_blocks(1, 0, ()) + deed_blocks(1, 1, LONG), ()))
