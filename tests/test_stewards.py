import itertools
import random
import unittest

from criermoot.letters import submission
from criermoot.stewards import decided, plain_end
from tests import drawn, plainsites
from tests.bookcase import book
from tests.samples import notice

HOLD, PASS, REFUSE = ("hold",), ("pass",), ("refuse", "fish")
ANY = ("any",)
NAMES = ("ann@mill", "bob@hill", "cid@hill", "dan@quay")


def of(*verdicts):
    """The book with stewards of the boards a, b, c and d who have these verdicts for everything."""
    stewards = tuple(("steward", board, address, ((ANY, told),)) for board, address, told in zip("abcd", NAMES, verdicts))
    return book(stewards=stewards, lists=())


def post(*boards, **parts):
    return notice(boards=boards, **parts)


def sealed(whole, *seals):
    return whole[:8] + (seals,) + whole[9:]


def submit(whole, goal, needed, *seen):
    return ("letter", f"s:5@mill:{len(whole[8])}:{len(seen)}", goal, ("submit", whole, needed, seen))


class DecidedTest(unittest.TestCase):
    def check(self, told, stewards, letter, clock=12, verdict=None):
        self.assertEqual(decided(stewards, letter, clock, verdict), told)
        # The same verdict by hand, over a policy that has another one.
        for other in (HOLD, PASS, REFUSE):
            given = verdict
            if given is None:
                given = [entry[3][0][1] for entry in stewards[6] if entry[2] == letter[2]][0]
            changed = tuple(entry[:3] + (((ANY, other),),) for entry in stewards[6])
            self.assertEqual(decided(stewards[:6] + (changed, ()), letter, clock, given), told)

    def test_pass(self):
        whole = post("a", "b", "c")
        letter = submit(whole, "ann@mill", "ann@mill")
        one = sealed(whole, "ann@mill")
        self.check(("on", submit(one, "bob@hill", "bob@hill")), of(PASS, PASS, PASS), letter)
        two = sealed(whole, "ann@mill", "bob@hill")
        self.check(("on", submit(two, "cid@hill", "cid@hill")), of(PASS, PASS, PASS), submit(one, "bob@hill", "bob@hill"))
        three = sealed(whole, *NAMES[:3])
        self.check(("out", three), of(PASS, PASS, PASS), submit(two, "cid@hill", "cid@hill"))

    def test_pass_gives_the_needed_seal(self):
        """Whoever passes what was sent on gives the seal for which it was sent on."""
        whole = post("a", "b")
        letter = submit(whole, "cid@hill", "ann@mill", "ann@mill", "dan@quay")
        self.check(("on", submit(sealed(whole, "ann@mill"), "bob@hill", "bob@hill")), of(PASS, PASS, PASS, PASS), letter)
        letter = submit(post("a"), "cid@hill", "ann@mill", "ann@mill")
        self.check(("out", sealed(post("a"), "ann@mill")), of(HOLD, HOLD, PASS), letter)

    def test_refuse(self):
        self.check(("refused", "fish"), of(REFUSE), submit(post("a"), "ann@mill", "ann@mill"))

    def test_hold(self):
        self.check(HOLD, of(HOLD), submit(post("a"), "ann@mill", "ann@mill"))

    def test_send(self):
        whole = post("a", "b")
        stewards = of(("send", "dan@quay"), ("send", "dan@quay"), PASS, PASS)
        letter = submit(whole, "ann@mill", "ann@mill")
        self.check(("on", submit(whole, "dan@quay", "ann@mill", "ann@mill")), stewards, letter)
        letter = submit(whole, "bob@hill", "ann@mill", "ann@mill", "cid@hill")
        self.check(("on", submit(whole, "dan@quay", "ann@mill", "ann@mill", "cid@hill", "bob@hill")), stewards, letter)

    def test_send_to_nobody(self):
        for address in ("eve@quay", "ann@hill", "few@mill"):
            self.check(("refused", "nobody"), of(("send", address)), submit(post("a"), "ann@mill", "ann@mill"))

    def test_send_in_a_ring(self):
        letter = submit(post("a"), "bob@hill", "ann@mill", "ann@mill", "cid@hill")
        for address in NAMES[:3]:
            self.check(("refused", "ring"), of(PASS, ("send", address), PASS, PASS), letter)
        self.check(("refused", "ring"), of(("send", "ann@mill")), submit(post("a"), "ann@mill", "ann@mill"))
        # Who has given an earlier seal has not seen it for this one.
        whole = sealed(post("c", "b"), "cid@hill")
        told = ("on", submit(whole, "cid@hill", "bob@hill", "bob@hill"))
        self.check(told, of(PASS, ("send", "cid@hill"), PASS), submit(whole, "bob@hill", "bob@hill"))

    def test_late(self):
        letter = submit(post("a", date=20), "ann@mill", "ann@mill")
        for told in (PASS, HOLD, REFUSE, ("send", "bob@hill"), ("send", "eve@quay")):
            self.assertEqual(decided(of(told, PASS), letter, 71), ("refused", "late"))
            self.assertEqual(decided(of(told, PASS), letter, 9999), ("refused", "late"))
            self.assertNotEqual(decided(of(told, PASS), letter, 70), ("refused", "late"))
            self.assertEqual(decided(of(PASS, PASS), letter, 71, told), ("refused", "late"))
        self.assertEqual(decided(of(PASS), letter, 70), ("out", sealed(post("a", date=20), "ann@mill")))

    def test_policies(self):
        """The first rule whose test holds decides, and a policy without one passes."""
        rules = ((("sealed", "bob@hill"), REFUSE), (("word", "fresh"), HOLD), (ANY, REFUSE))
        stewards = book(stewards=(("steward", "a", "ann@mill", rules), ("steward", "b", "bob@hill", ())))
        self.assertEqual(decided(stewards, submit(post("a"), "ann@mill", "ann@mill"), 12), HOLD)
        self.assertEqual(decided(stewards, submit(post("a", subject=""), "ann@mill", "ann@mill"), 12), ("refused", "fish"))
        told = decided(stewards, submit(post("b"), "bob@hill", "bob@hill"), 12)
        self.assertEqual(told, ("out", sealed(post("b"), "bob@hill")))


class PlainEndTest(unittest.TestCase):
    def check(self, told, stewards, whole, hands=()):
        self.assertEqual(plain_end(stewards, whole, hands), told)

    def test_out(self):
        whole = post("a", "b", "d")
        self.check(("out", sealed(whole, "ann@mill", "bob@hill", "dan@quay"), "quay"), of(PASS, PASS, PASS, PASS), whole)
        self.check(("out", sealed(post("b"), "bob@hill"), "hill"), of(PASS, PASS), post("b"))
        self.assertEqual(plain_end(of(PASS), post("a")), ("out", sealed(post("a"), "ann@mill"), "mill"))

    def test_sent_on(self):
        stewards = of(("send", "bob@hill"), ("send", "dan@quay"), PASS, PASS)
        self.check(("out", sealed(post("a"), "ann@mill"), "quay"), stewards, post("a"))

    def test_refused(self):
        self.check(("refused", "fish"), of(PASS, REFUSE), post("a", "b"))
        self.check(("refused", "nobody"), of(("send", "eve@quay")), post("a"))
        self.check(("refused", "ring"), of(("send", "bob@hill"), ("send", "ann@mill")), post("a"))
        self.check(("refused", "ring"), of(("send", "ann@mill")), post("a"))

    def test_nothing_is_late(self):
        self.check(("out", sealed(post("a", date=9999999), "ann@mill"), "mill"), of(PASS), post("a", date=9999999))
        self.check(("out", sealed(post("a", date=0), "ann@mill"), "mill"), of(PASS), post("a", date=0))

    def test_hands(self):
        stewards = of(HOLD, HOLD, PASS)
        self.check(("held", "ann@mill"), stewards, post("a"))
        self.check(("held", "ann@mill"), stewards, post("a"), (("bob@hill", PASS), ("ann@hill", PASS)))
        self.check(("out", sealed(post("a"), "ann@mill"), "mill"), stewards, post("a"), (("bob@hill", REFUSE), ("ann@mill", PASS)))
        self.check(("refused", "fish"), stewards, post("a"), (("ann@mill", REFUSE), ("ann@mill", PASS)))
        self.check(("held", "bob@hill"), stewards, post("a", "b"), (("ann@mill", PASS),))
        told = ("out", sealed(post("a"), "ann@mill"), "hill")
        self.check(told, stewards, post("a"), (("ann@mill", ("send", "cid@hill")),))

    def test_hands_that_hold(self):
        stewards = of(HOLD)
        self.check(("held", "ann@mill"), stewards, post("a"), (("ann@mill", HOLD),))
        self.check(("refused", "fish"), stewards, post("a"), (("ann@mill", HOLD), ("ann@mill", HOLD), ("ann@mill", REFUSE)))

    def test_hands_are_used_once_each(self):
        """The steward of the first board is asked again for the second seal."""
        stewards = of(HOLD, ("send", "ann@mill"))
        whole = post("a", "b")
        self.check(("held", "ann@mill"), stewards, whole, (("ann@mill", PASS),))
        self.check(("refused", "fish"), stewards, whole, (("ann@mill", PASS), ("ann@mill", REFUSE)))
        told = ("out", sealed(whole, "ann@mill", "bob@hill"), "mill")
        self.check(told, stewards, whole, (("bob@hill", REFUSE), ("ann@mill", PASS), ("ann@mill", PASS), ("ann@mill", REFUSE)))

    def test_hands_that_are_not_asked(self):
        self.check(("out", sealed(post("a"), "ann@mill"), "mill"), of(PASS), post("a"), (("ann@mill", REFUSE),))

    def test_missing_ways(self):
        apart = book(lines=(("hill", "quay"),), feeds=(), lists=(), stewards=(
            ("steward", "a", "ann@mill", ()), ("steward", "b", "bob@hill", ()),
            ("steward", "c", "cid@hill", ((ANY, ("send", "ann@mill")),)), ("steward", "d", "dan@quay", ())))
        self.check(("out", sealed(post("a"), "ann@mill"), "mill"), apart, post("a"))
        self.check(("refused", "nowhere"), apart, post("b"))
        far = post("b", id=("hill", 5), author="eve@hill")
        self.check(("out", sealed(far, "bob@hill"), "hill"), apart, far)
        # A way from the site where the first seal was given to the second steward is missing, and one to send it.
        self.check(("refused", "nowhere"), apart, post("a", "b"))
        self.check(("refused", "nowhere"), apart, post("c", id=("hill", 5), author="eve@hill"))
        far = post("b", "d", id=("hill", 5), author="eve@hill")
        self.check(("out", sealed(far, "bob@hill", "dan@quay"), "quay"), apart, far)

    def test_arguments_stay(self):
        hands = (("ann@mill", PASS), ("ann@mill", PASS))
        for _ in range(2):
            self.check(("out", sealed(post("a"), "ann@mill"), "mill"), of(HOLD), post("a"), hands)
        self.assertEqual(hands, (("ann@mill", PASS), ("ann@mill", PASS)))

    def test_drawn(self):
        chance = random.Random(37)
        seen = {}
        for _ in range(400):
            stewards = drawn.draw_book(chance, stewards=4, lists=0)
            if not stewards[6]:
                continue
            site = chance.choice(stewards[3])[1]
            boards = tuple(chance.sample(drawn.BOARDS, 3))
            whole = notice(id=(site, 5), author=f"ann@{site}", boards=boards, kind=chance.choice((("post",), ("replace", ("x", 1)))))
            if submission(stewards, whole) is None:
                continue
            addresses = [entry[2] for entry in stewards[6]]
            hands = tuple((chance.choice(addresses), drawn.draw_verdict(chance, addresses)) for _ in range(chance.randrange(9)))
            told = plainsites.end(stewards, whole, hands)
            self.assertEqual(plain_end(stewards, whole, hands), told)
            seen[told[:1 if told[0] != "refused" else 2]] = True
        names = ("fish", "nobody", "ring", "nowhere")
        self.assertEqual(set(seen), {("out",), ("held",)} | {("refused", name) for name in names})

    def test_at_most_three_times_as_many_decisions(self):
        """The longest ends: each of the stewards sends on what he sees, for each of three seals."""
        for order in itertools.permutations(NAMES[:3]):
            hands = []
            for needed in NAMES[:3]:
                ring = [needed] + [name for name in order if name != needed]
                hands += [(name, ("send", other)) for name, other in zip(ring, ring[1:])] + [(ring[-1], PASS)]
            told = plain_end(of(HOLD, HOLD, HOLD), post("a", "b", "c"), tuple(hands))
            self.assertEqual(told[:2], ("out", sealed(post("a", "b", "c"), *NAMES[:3])))
