import itertools
import random
import unittest

from criermoot.threads import Threads, threads_of, walk
from tests.samples import notice


def post(number, date, *refs, site="hill", subject=""):
    return notice(id=(site, number), author=f"ann@{site}", date=date, subject=subject, refs=tuple(
        ref if isinstance(ref, tuple) else ("hill", ref) for ref in refs))


def thread(number, *threads):
    return ("thread", ("hill", number), tuple(threads))


def plain_threads(notices, parent=None):
    """The threads of the notices with this parent, in a slow way."""
    place = {one[1]: (one[3], one[1]) for one in notices}
    found = []
    for one in notices:
        earlier = [ref for ref in one[6] if ref in place and place[ref] < place[one[1]]]
        if (earlier[-1] if earlier else None) == parent:
            found.append(one)
    found.sort(key=lambda one: place[one[1]])
    return tuple(("thread", one[1], plain_threads(notices, one[1])) for one in found)


def draw_notices(chance, many):
    ids = [(chance.choice(("hill", "mill")), number) for number in range(1, many + 1)]
    found = []
    for id in ids:
        others = [one for one in ids if one != id] + [("hill", 90), ("quay", 1)]
        refs = tuple(chance.sample(others, chance.randrange(min(4, len(others)))))
        found.append(notice(id=id, author=f"ann@{id[0]}", date=chance.randrange(6), refs=refs))
    return found


class ThreadsOfTest(unittest.TestCase):
    def check(self, notices, *told):
        for order in itertools.islice(itertools.permutations(notices), 150):
            self.assertEqual(threads_of(order), told)
        self.assertEqual(plain_threads(notices), told)

    def test_none(self):
        self.check(())
        self.assertEqual(threads_of([]), ())

    def test_refs(self):
        self.check((post(1, 5), post(2, 6, 1), post(3, 7, 1), post(4, 8, 2), post(5, 4)),
                   thread(5), thread(1, thread(2, thread(4)), thread(3)))

    def test_refs_to_what_is_not_there(self):
        self.check((post(1, 5, 9), post(2, 6, 1, 9), post(3, 7, ("mill", 1))), thread(1, thread(2)), thread(3))

    def test_refs_to_later_ones(self):
        self.check((post(1, 5, 2), post(2, 6, 3), post(3, 7)), thread(1), thread(2), thread(3))
        self.check((post(1, 5, 2), post(2, 6, 1)), thread(1, thread(2)))

    def test_the_last_earlier_one_counts(self):
        base = (post(1, 1), post(2, 2), post(4, 9))
        self.check(base + (post(3, 5, 1, 2),), thread(1), thread(2, thread(3)), thread(4))
        self.check(base + (post(3, 5, 2, 1),), thread(1, thread(3)), thread(2), thread(4))
        self.check(base + (post(3, 5, 1, 2, 4, 9),), thread(1), thread(2, thread(3)), thread(4))

    def test_equal_dates(self):
        self.check((post(2, 5), post(1, 5, 2), post(3, 5, 2)), thread(1), thread(2, thread(3)))
        self.check((post(10, 5, 9), post(9, 5)), thread(9, thread(10)))
        one, two = post(9, 5), post(1, 5, ("hill", 9), site="mill")
        self.check((one, two), ("thread", one[1], (("thread", two[1], ()),)))
        self.check((post(9, 5, ("mill", 1)), post(1, 5, site="mill")), ("thread", ("hill", 9), ()), ("thread", ("mill", 1), ()))

    def test_order_beside_each_other(self):
        self.check((post(1, 0), post(5, 9, 1), post(7, 3, 1), post(2, 9, 1), post(8, 2)),
                   thread(1, thread(7), thread(2), thread(5)), thread(8))

    def test_chains(self):
        many = 700
        notices = [post(number, number, number - 1) for number in range(1, many + 1)]
        told = threads_of(notices[::-1])
        found = list(walk(told))
        self.assertEqual(found, [(number - 1, ("hill", number)) for number in range(1, many + 1)])

    def test_drawn(self):
        chance = random.Random(53)
        for _ in range(300):
            notices = draw_notices(chance, chance.randrange(10))
            self.assertEqual(threads_of(tuple(notices)), plain_threads(notices))


class WalkTest(unittest.TestCase):
    def test_walk(self):
        threads = (thread(1, thread(3, thread(4)), thread(2)), thread(7))
        told = [(0, 1), (1, 3), (2, 4), (1, 2), (0, 7)]
        self.assertEqual(list(walk(threads)), [(depth, ("hill", number)) for depth, number in told])
        self.assertEqual(list(walk(())), [])
        first = next(walk(threads))
        self.assertEqual((type(first), first), (tuple, (0, ("hill", 1))))


class ThreadsTest(unittest.TestCase):
    def test_put_and_drop(self):
        threads = Threads()
        self.assertEqual(threads.whole(), ())
        self.assertIsNone(threads.put(post(2, 6, 1)))
        self.assertEqual(threads.whole(), (thread(2),))
        threads.put(post(1, 5))
        self.assertEqual(threads.whole(), (thread(1, thread(2)),))
        threads.put(post(3, 7, 2))
        self.assertEqual(threads.whole(), (thread(1, thread(2, thread(3))),))
        self.assertIsNone(threads.drop(("hill", 2)))
        self.assertEqual(threads.whole(), (thread(1), thread(3)))
        threads.put(post(2, 6, 1))
        self.assertEqual(threads.whole(), (thread(1, thread(2, thread(3))),))

    def test_an_id_that_is_in(self):
        threads = Threads()
        threads.put(post(1, 5))
        threads.put(post(2, 6))
        threads.put(post(2, 6, 1))
        self.assertEqual(threads.whole(), (thread(1), thread(2)))
        threads.drop(("hill", 2))
        threads.put(post(2, 6, 1))
        self.assertEqual(threads.whole(), (thread(1, thread(2)),))

    def test_an_id_that_is_not_in(self):
        threads = Threads()
        threads.put(post(1, 5))
        self.assertIsNone(threads.drop(("hill", 2)))
        threads.drop(("mill", 1))
        self.assertEqual(threads.whole(), (thread(1),))

    def test_every_order(self):
        notices = (post(1, 5), post(2, 6, 1), post(3, 7, 1, 2), post(4, 6, 3, 1))
        for order in itertools.permutations(notices):
            threads = Threads()
            for many, one in enumerate(order):
                threads.put(one)
                self.assertEqual(threads.whole(), plain_threads(order[:many + 1]))
            for gone in itertools.permutations(notices, 2):
                other = Threads()
                for one in order:
                    other.put(one)
                for many, one in enumerate(gone):
                    other.drop(one[1])
                    self.assertEqual(other.whole(), plain_threads([left for left in order if left not in gone[:many + 1]]))

    def test_drawn(self):
        chance = random.Random(530)
        for _ in range(60):
            pool = draw_notices(chance, 8)
            threads, inside = Threads(), {}
            for _ in range(40):
                one = chance.choice(pool)
                if chance.random() < 0.6:
                    threads.put(one)
                    inside.setdefault(one[1], one)
                else:
                    threads.drop(one[1])
                    inside.pop(one[1], None)
                self.assertEqual(threads.whole(), plain_threads(list(inside.values())))
