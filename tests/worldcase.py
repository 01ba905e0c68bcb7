"""What must hold in a world at every moment, and when it rests, by a slow reading of the document."""

from tests import drawn, plainsites


def ids_of(pairs):
    return tuple(id for _, id in pairs)


class Watch:
    """A world that is watched; a case is a test case that tells what does not hold."""

    def __init__(self, case, world, book):
        self.case, self.world, self.book = case, world, book
        self.numbers = {}
        self.ends = {}
        self.boxed = {}

    def watch(self):
        """What [51] promises for every moment."""
        self.case.assertEqual(self.world.twice(), ())
        posts = self.world.posted()
        self.case.assertEqual(len({notice[1] for _, notice in posts}), len(posts))
        for entry in self.book[3]:
            self.watch_site(entry[1], posts)
        self.watch_addresses()

    def watch_site(self, name, posts):
        case, world = self.case, self.world
        reached = plainsites.taken(self.book, posts, name)
        for id, hops in world.taken(name):
            case.assertIn(id, reached)
            case.assertGreaterEqual(hops, reached[id][0])
        if not world.is_up(name):
            return
        notices = [reached[id][1] for id, _ in world.taken(name)]
        for board in drawn.BOARDS:
            shown = world.shown(name, board)
            case.assertEqual(ids_of(shown), plainsites.shown(self.book, name, notices, world.clock(name), board))
            for number, id in shown:
                case.assertEqual(self.numbers.setdefault((name, board, number), id), id)
            last = world.since(name, board, 0)[1]
            case.assertEqual(self.view(name, board, last), tuple(sorted(shown)))

    def view(self, name, board, last):
        """The view of a story, by whichever answer tells it whole."""
        answer = self.world.since(name, board, 0)
        if answer[0] == "whole":
            return answer[2]
        pairs = {}
        for change in answer[2]:
            if change[0] == "new":
                self.case.assertNotIn(change[1], pairs)
                pairs[change[1]] = change[2]
            else:
                del pairs[change[1]]
        self.case.assertEqual(answer[1], last)
        return tuple(sorted(pairs.items()))

    def watch_addresses(self):
        for entry in self.book[3]:
            for person in drawn.PERSONS:
                address = f"{person}@{entry[1]}"
                told, box = self.world.told(address), self.world.box(address)
                self.case.assertEqual(len({id for id, _ in told}), len(told))
                self.case.assertEqual(len(set(box)), len(box))
                if self.world.is_up(entry[1]):
                    # What was told or put into a box stays so, in order.
                    for kept, now in ((self.ends, told), (self.boxed, box)):
                        self.case.assertEqual(now[:len(kept.get(address, ()))], kept.get(address, ()))
                        kept[address] = now

    def watch_talks(self):
        """How often bodies were begun, at the most."""
        for giver, taker in self.directions():
            for key in self.keys():
                many = self.world.bodies(giver, taker, key)
                self.case.assertLessEqual(many, self.world.cuts(giver, taker, key) + 1)

    def directions(self):
        return [pair for line in self.book[4] for pair in (line, line[::-1])]

    def keys(self):
        return [f"{notice[1][1]}@{notice[1][0]}" for _, notice in self.world.posted()]

    def fresh(self):
        """The posts that were never too old anywhere."""
        latest = max(self.world.clock(entry[1]) for entry in self.book[3])
        return [(origin, notice) for origin, notice in self.world.posted() if notice[3] >= latest - self.book[1]]

    def watch_rest(self):
        """What [52] promises for a world at rest; whether nothing was too old."""
        case, world = self.case, self.world
        case.assertIs(world.rests(), True)
        posts, fresh = world.posted(), [notice[1] for _, notice in self.fresh()]
        for entry in self.book[3]:
            reached, taken = plainsites.taken(self.book, posts, entry[1]), dict(world.taken(entry[1]))
            for id in fresh:
                case.assertEqual(taken.get(id), reached[id][0] if id in reached else None)
        if len(fresh) == len(posts):
            self.watch_plain(posts)
        return len(fresh) == len(posts)

    def watch_plain(self, posts):
        """What is shown, and the boxes, are those of the plain meaning."""
        for entry in self.book[3]:
            name = entry[1]
            notices = [notice for _, notice in plainsites.taken(self.book, posts, name).values()]
            for board in drawn.BOARDS:
                told = plainsites.shown(self.book, name, notices, self.world.clock(name), board)
                self.case.assertEqual(ids_of(self.world.shown(name, board)), told)
            for person in drawn.PERSONS:
                address = f"{person}@{name}"
                self.case.assertEqual(tuple(sorted(self.world.box(address))), plainsites.box(self.book, posts, address))


class Submissions:
    """What was submitted in a world, and the hands that were used."""

    def __init__(self, world, book):
        self.world, self.book = world, book
        self.submitted = {}
        self.hands = {}

    def do(self, act):
        """Does an act, of which it keeps what is submitted or decided."""
        held = act[0] == "verdict" and act[2] in self.world.held(act[1])
        site = act[1].split("@")[1] if act[0] == "post" else None
        clock = self.world.clock(site) if site else 0
        told = self.world.do(act)
        if act[0] == "post" and told is not None:
            notice = ("notice", told, act[1], clock) + act[2:6] + ((), act[6])
            if plainsites.missing(self.book, notice):
                self.submitted[told] = notice
        # A hand is used if the site has not fallen ahead of its last write.
        if held and (self.world.is_up(plainsites.place_of(act[1])) or not self.is_still_held(act)):
            self.hands.setdefault(act[2], []).append((act[1], act[3]))
        return told

    def is_still_held(self, act):
        """Whether the disk of a site that is down tells that something is held there."""
        return act[2] in self.world._machine.sites[plainsites.place_of(act[1])].held(act[1])

    def end_of(self, id):
        """The plain end of what was submitted, with the hands that were used."""
        return plainsites.end(self.book, self.submitted[id], self.hands.get(id, []))

    def found_end(self, id):
        """The end in the world: what was out or refused, or where it is held."""
        for origin, notice in self.world.posted():
            if notice[1] == id:
                return ("out", notice, origin)
        for entry in self.book[6]:
            if id in self.world.held(entry[2]):
                return ("held", entry[2])
        told = dict(self.world.told(self.submitted[id][2]))
        return told.get(id)
