import random
import unittest

from criermoot.reader import Reader


def ids(*numbers):
    return tuple(("hill", number) for number in numbers)


def view(*numbers):
    """A view in which the numbers of a board are 10 times those of the ids."""
    return tuple((10 * number, ("hill", number)) for number in numbers)


def reader_of(*numbers):
    reader = Reader()
    for id in ids(*numbers):
        reader.read(id)
    return reader


class ReaderTest(unittest.TestCase):
    def test_new(self):
        reader = Reader()
        self.assertEqual((reader.ids(), reader.new(()), reader.new(view(3, 1))), ((), (), view(3, 1)))
        self.assertIsNone(reader.read(("hill", 3)))
        self.assertEqual(reader.new(view(1, 3, 2)), view(1, 2))
        reader.read(("hill", 3))
        reader.read(("mill", 2))
        self.assertEqual(reader.ids(), (("hill", 3), ("mill", 2)))

    def test_an_id_under_several_numbers(self):
        told = ((4, ("hill", 1)), (2, ("hill", 2)), (9, ("hill", 1)), (1, ("hill", 3)))
        self.assertEqual(reader_of(2).new(told), (told[0], told[2], told[3]))
        self.assertEqual(reader_of(1).new(told), (told[1], told[3]))

    def test_meet(self):
        one, other = reader_of(1, 3), reader_of(3, 2)
        self.assertIsNone(one.meet(other))
        self.assertEqual((one.ids(), other.ids()), (ids(1, 2, 3), ids(1, 2, 3)))
        # What one reads later is new to the other one.
        one.read(("hill", 4))
        self.assertEqual(other.new(view(4, 1)), view(4))
        other.read(("hill", 5))
        self.assertEqual((one.ids(), other.ids()), (ids(1, 2, 3, 4), ids(1, 2, 3, 5)))
        other.meet(one)
        self.assertEqual((one.ids(), other.ids()), (ids(1, 2, 3, 4, 5), ids(1, 2, 3, 4, 5)))

    def test_itself(self):
        reader = reader_of(2, 1)
        reader.meet(reader)
        self.assertEqual(reader.ids(), ids(1, 2))

    def test_a_chain(self):
        readers = [reader_of(number) for number in range(1, 6)]
        for one, other in zip(readers, readers[1:]):
            one.meet(other)
        told = [ids(1, 2), ids(1, 2, 3), ids(1, 2, 3, 4), ids(1, 2, 3, 4, 5), ids(1, 2, 3, 4, 5)]
        self.assertEqual([reader.ids() for reader in readers], told)
        readers[2].read(("hill", 9))
        for one, other in list(zip(readers, readers[1:]))[::-1]:
            one.meet(other)
        self.assertEqual([reader.ids() for reader in readers], [ids(1, 2, 3, 4, 5, 9)] * 4 + [ids(1, 2, 3, 4, 5)])

    def test_new_until_it_is_read_once(self):
        """Readers that are brought together each time: each notice is new until it is read once, wherever that is."""
        chance = random.Random(56)
        readers, read = [Reader() for _ in range(3)], set()
        for _ in range(200):
            here = chance.choice(readers)
            for other in readers:
                here.meet(other)
            told = view(*chance.sample(range(1, 60), 8))
            self.assertEqual(here.new(told), tuple(pair for pair in told if pair[1] not in read))
            for _, id in here.new(told)[:2]:
                here.read(id)
                read.add(id)

    def test_drawn(self):
        chance = random.Random(560)
        readers, sets = [Reader() for _ in range(4)], [set() for _ in range(4)]
        for _ in range(400):
            one, other = chance.choices(range(4), k=2)
            if chance.random() < 0.4:
                readers[one].meet(readers[other])
                sets[one] = sets[one] | sets[other]
                sets[other] = set(sets[one])
            else:
                id = ("hill", chance.randrange(1, 99))
                readers[one].read(id)
                sets[one].add(id)
            for reader, told in zip(readers, sets):
                self.assertEqual(reader.ids(), tuple(sorted(told)))
