"""Part 10: trades, spread pairs, certificates of free and tied pairs, words told back, unlike deeds."""

import unittest

from bentplane import families, free, steps
from bentplane.errors import BadFamily, BadStep, BadTrade, NotFree
from tests import listing, plain, reference, samples
from tests.plain import NOTHING, SAME, SWAP
from tests.reference import FIELDS

BEND = (0, 0, 1)
BENT = (-1, (BEND,), (), SAME)
TURNED = (-1, (), (), SWAP)
CORE = (-1, (BEND,), (), SWAP)
TRADES = ("1+2", "1-2", "2+1", "2-1")
BACK = {"1+2": "1-2", "1-2": "1+2", "2+1": "2-1", "2-1": "2+1"}


def traded(q, pair, trade):
    """A trade by the words of [10.1]."""
    u, v = pair
    if trade[0] == "1":
        return (steps.product(q, u, v if trade[1] == "+" else steps.undoing(q, v)), v)
    return (u, steps.product(q, v, u if trade[1] == "+" else steps.undoing(q, u)))


def is_spread(q, pair):
    u, v = pair
    walks = plain.walk(q, u), plain.walk(q, v)
    both = plain.walk(q, steps.product(q, u, v)), plain.walk(q, steps.product(q, u, steps.undoing(q, v)))
    return min(walks) > 0 and min(both) > abs(walks[0] - walks[1])


def is_told_word(thing):
    if type(thing) is not tuple or thing == ():
        return False
    if not all(type(k) is int and k in (-2, -1, 1, 2) for k in thing):
        return False
    return all(thing[k] + thing[k + 1] for k in range(len(thing) - 1))


def plainly_right(q, pair, thing):
    """Whether a value is a right certificate, by the words of [10.2]."""
    if type(thing) is not tuple or len(thing) not in (2, 3) or type(thing[0]) is not str:
        return False
    if thing[0] == "free" and len(thing) == 2 and type(thing[1]) is tuple:
        for trade in thing[1]:
            if type(trade) is not str or trade not in TRADES:
                return False
        for trade in thing[1]:
            pair = traded(q, pair, trade)
        return is_spread(q, pair)
    if thing[0] == "tied" and len(thing) == 3 and is_told_word(thing[1]) and type(thing[2]) is int and thing[2] > 0:
        step = listing.letter_by_letter(q, pair, thing[1])
        return plain.walk(q, step) == 0 and thing[2] % plain.order(q, step) == 0
    return False


def growing(q, draw, many, depth=0):
    """A step that grows, with so many bends in its short form, behind a change of so many bends."""
    core = samples.core(q, draw, samples.some_degrees(draw, many))
    return plain.seen_back(q, core, samples.step(q, draw, samples.some_degrees(draw, depth)))


def repeated(q, step, n):
    found = NOTHING
    for _ in range(abs(n)):
        found = steps.product(q, found, step if n > 0 else steps.undoing(q, step))
    return found


def pairs_of_growing(q, draw):
    """Pairs of growing steps of all sorts, with at most 6 bends each."""
    found = [(growing(q, draw, 1), growing(q, draw, 1)), (growing(q, draw, 2), growing(q, draw, 1)),
             (growing(q, draw, 3, 1), growing(q, draw, 1, 2)), (growing(q, draw, 6), growing(q, draw, 5))]
    one = growing(q, draw, 2)
    found.append((one, plain.seen(q, one, samples.step(q, draw, (2,)))))
    found.append((one, plain.seen(q, one, samples.straight_step(q, draw))))
    # Steps that begin alike: as far as one of them goes, and not so far.
    bends, turns = (samples.bend(q, draw, 2), samples.bend(q, draw, 3)), (draw.randrange(q),)
    for tail in ((samples.bend(q, draw, 2),), (samples.bend(q, draw, 4), samples.bend(q, draw, 2))):
        more = tuple(draw.randrange(q) for _ in tail)
        found.append(((-1, bends, turns, SWAP), (-1, bends + tail, turns + more, samples.straight(q, draw))))
    return found


def tied_pairs(q, draw):
    """Pairs that are not free: one rests, repeats of one step, commuting ones, and such behind trades."""
    grows = growing(q, draw, 1)
    found = [(grows, samples.resting_step(q, draw, 1)), (samples.resting_step(q, draw, 1), growing(q, draw, 2)),
             (samples.resting_step(q, draw, 0), samples.resting_step(q, draw, 2)), (NOTHING, grows), (grows, NOTHING),
             (grows, grows), (grows, steps.undoing(q, grows)), (TURNED, BENT)]
    for n, m in ((2, 1), (2, 3), (-3, 2), (4, 6), (5, -3), (6, 6)):
        found.append((repeated(q, grows, n), repeated(q, grows, m)))
    # Over 2 the shift by 1 in both letters commutes with this step, which has a bend x^2 + x^4.
    if q == 2:
        step, shift = (-1, ((0, 0, 1, 0, 1),), (), SWAP), (-1, (), (), (1, 0, 1, 0, 1, 1))
        assert steps.product(2, step, shift) == steps.product(2, shift, step)
        found += [(step, steps.product(2, step, shift)), (repeated(2, step, 2), steps.product(2, repeated(2, step, 3), shift))]
    for pair in list(found[:3]):
        for trade in draw.sample(TRADES, 2):
            pair = traded(q, pair, trade)
        found.append(pair)
    return [pair for pair in found if max(len(step[1]) for step in pair) <= 6]


class Trades(unittest.TestCase):
    def test_products(self):
        for q in FIELDS:
            draw = samples.drawer(q, "trades")
            for many, more in ((0, 0), (1, 0), (2, 3), (6, 6)):
                u, v = (samples.step(q, draw, samples.some_degrees(draw, k)) for k in (many, more))
                back_u, back_v = steps.undoing(q, u), steps.undoing(q, v)
                self.assertEqual(free.traded(q, u, v, "1+2"), (steps.product(q, u, v), v))
                self.assertEqual(free.traded(q, u, v, "1-2"), (steps.product(q, u, back_v), v))
                self.assertEqual(free.traded(q, u, v, "2+1"), (u, steps.product(q, v, u)))
                self.assertEqual(free.traded(q, u, v, "2-1"), (u, steps.product(q, v, back_u)))
                for trade in TRADES:
                    found = free.traded(q, u, v, trade)
                    self.assertEqual([type(found), free.traded(q, *found, BACK[trade])], [tuple, (u, v)])

    def test_no_trades(self):
        for q in FIELDS:
            things = samples.odd_values() + [["1+2"], ("1+2",), "1*2", "1+1", "2+2", "1+2 ", " 1+2", "12", "+", "1+3", "3+1"]
            for thing in [thing for thing in things if thing not in TRADES]:
                with self.assertRaises(BadTrade) as caught:
                    free.traded(q, CORE, BENT, thing)
                self.assertIs(caught.exception.thing, thing)
                for one, other in ((None, 5), (CORE, None)):
                    with self.assertRaises(BadStep) as caught:
                        free.traded(q, one, other, thing)
                    self.assertIsNone(caught.exception.thing)


class Spread(unittest.TestCase):
    def test_by_walks(self):
        for q in FIELDS:
            draw = samples.drawer(q, "spread")
            for one, other in pairs_of_growing(q, draw) + tied_pairs(q, draw):
                for pair in ((one, other), (other, one), (one, steps.undoing(q, other))):
                    self.assertIs(free.is_spread(q, *pair), is_spread(q, pair))

    def test_lines_that_go_along_for_just_the_shorter_walk(self):
        for q in FIELDS:
            draw = samples.drawer(q, "along")
            bend, other = samples.bend(q, draw, 2), samples.bend(q, draw, 3)
            one = (-1, (bend,), (), (0, 1, 0, 1, 0, 0))
            for tail in ((other,), (bend, other), (bend, bend, other)):
                more = (-1, tail, (0,) * (len(tail) - 1), (0, 1, 0, 1, 0, 0))
                self.assertIs(free.is_spread(q, one, more), is_spread(q, (one, more)))

    def test_resting_steps_are_not_spread(self):
        for q in FIELDS:
            for one, other in ((BENT, CORE), (CORE, BENT), (NOTHING, CORE), (TURNED, BENT), (NOTHING, NOTHING)):
                self.assertIs(free.is_spread(q, one, other), False)


class Certificates(unittest.TestCase):
    def check_pair(self, q, one, other):
        found = free.judge_free(q, one, other)
        self.assertEqual(type(found), tuple)
        self.assertTrue(plainly_right(q, (one, other), found), found)
        self.assertIs(free.free_holds(q, one, other, found), True)
        right = found[0] == "free"
        if right:
            self.assertLessEqual(len(found[1]), 40)
        else:
            self.assertLessEqual(len(found[1]), 500)
            self.assertLessEqual(found[2], 100000)
        for pair in ((one, other), (other, one), (steps.undoing(q, one), other), (one, steps.undoing(q, other))):
            self.assertIs(free.are_free(q, *pair), right)
            self.assertEqual(free.judge_free(q, *pair)[0], found[0])
        return found

    def test_growing_steps(self):
        for q in FIELDS:
            for one, other in pairs_of_growing(q, samples.drawer(q, "growing")):
                found = self.check_pair(q, one, other)
                if is_spread(q, (one, other)):
                    self.assertEqual(found[0], "free")

    def test_tied_pairs(self):
        for q in FIELDS:
            for one, other in tied_pairs(q, samples.drawer(q, "tied")):
                self.assertEqual(self.check_pair(q, one, other)[0], "tied")

    def test_drawn_steps(self):
        for q in FIELDS:
            draw = samples.drawer(q, "drawn")
            for trial in range(14):
                many, more = draw.randrange(4), draw.randrange(4)
                pair = [samples.step(q, draw, samples.some_degrees(draw, k)) for k in (many, more)]
                self.check_pair(q, *pair)

    def test_few_bends_over_two(self):
        """Pairs of steps with one bend over 2: many of them are tied in hidden ways."""
        maps = [(a, b, c, d, e, f) for a in (0, 1) for b in (0, 1) for c in (0, 1) for d in (0, 1)
                for e in (0, 1) for f in (0, 1) if reference.is_straight(2, (a, b, c, d, e, f))]
        found = []
        for one in maps[::2]:
            for other in maps[1::2]:
                pair = (-1, (BEND,), (), one), (-1, (BEND,), (), other)
                found.append(self.check_pair(2, *pair)[0])
                # One of the two behind a change, and one with another bend.
                found.append(self.check_pair(2, pair[0], plain.seen(2, pair[1], (-1, ((0, 0, 0, 1),), (), SAME)))[0])
                found.append(self.check_pair(2, pair[0], (0, ((0, 0, 0, 1),), (), other))[0])
        self.assertGreater(min(found.count("free"), found.count("tied")), 20)

    def test_pairs_behind_trades(self):
        """Trades leave free pairs free, and tied ones tied."""
        for q in FIELDS:
            draw = samples.drawer(q, "behind trades")
            short = [(growing(q, draw, 1), growing(q, draw, 1)), (growing(q, draw, 1), samples.bent_step(q, draw, 2))]
            for start in short:
                right = free.are_free(q, *start)
                for length in (1, 2, 3, 4):
                    pair = start
                    trades = [draw.choice(TRADES) for _ in range(length)]
                    for trade in trades:
                        pair = traded(q, pair, trade)
                    if max(len(step[1]) for step in pair) > 6:
                        continue
                    self.assertEqual(self.check_pair(q, *pair)[0] == "free", right)
                    back = tuple(BACK[trade] for trade in reversed(trades))
                    self.assertIs(free.free_holds(q, *pair, ("free", back)), is_spread(q, start))

    def test_pairs_behind_a_change_of_letters(self):
        for q in FIELDS:
            draw = samples.drawer(q, "behind a change")
            change = samples.step(q, draw, (2, 3))
            for one, other in pairs_of_growing(q, draw)[:2] + tied_pairs(q, draw)[:3]:
                seen = [plain.seen(q, step, change) for step in (one, other)]
                found = free.judge_free(q, one, other)
                self.assertEqual(free.judge_free(q, *seen)[0], found[0])
                self.assertIs(free.free_holds(q, *seen, found), True)

    def test_longer_ones(self):
        for q in FIELDS:
            draw = samples.drawer(q, "longer")
            for one, other in pairs_of_growing(q, draw)[:3]:
                found = free.judge_free(q, one, other)
                for trade in TRADES:
                    there_and_back = (trade, BACK[trade])
                    for many in (1, 5, 18):
                        self.assertIs(free.free_holds(q, one, other, ("free", there_and_back * many + found[1])), True)
                        self.assertIs(free.free_holds(q, one, other, ("free", found[1] + there_and_back * many)), True)
                for trades in ((trade,), (trade, trade), ("1+2", "2+1", "1+2")):
                    longer = ("free", found[1] + trades)
                    self.assertIs(free.free_holds(q, one, other, longer), plainly_right(q, (one, other), longer))
            for one, other in tied_pairs(q, draw):
                word, word_again, n = free.judge_free(q, one, other)
                for k in (2, 3, 1000):
                    self.assertIs(free.free_holds(q, one, other, (word, word_again, k * n)), True)
                self.assertIs(free.free_holds(q, one, other, (word, word_again, 7 * n + 1)), n == 1)
                back = tuple(-letter for letter in reversed(word_again))
                self.assertIs(free.free_holds(q, one, other, (word, back, n)), True)

    def test_long_tied_words(self):
        """Five hundred letters that lead far away, and back again."""
        for q in (2, 5, 16):
            draw = samples.drawer(q, "five hundred")
            grows, rests = samples.core(q, draw, (2, 3, 2, 3, 2, 6)), samples.bent_step(q, draw)
            order = plain.order(q, rests)
            for far in (1, 20, 249):
                word = (1,) * far + (2,) + (-1,) * far
                self.assertIs(free.free_holds(q, grows, rests, ("tied", word, order)), True)
                self.assertIs(free.free_holds(q, grows, rests, ("tied", word, order + 1)), False)
                self.assertIs(free.free_holds(q, grows, rests, ("tied", word[:-1], order)), False)
            self.assertIs(free.free_holds(q, grows, rests, ("tied", (1,) * 500, 1)), False)

    def test_wrong_ones_that_lead_far_away(self):
        for q in (2, 16):
            for trades in (("1+2", "2+1") * 700, ("1+2",) * 2500, ("2+1", "1-2", "2-1") * 400):
                self.assertIs(free.free_holds(q, CORE, CORE, ("free", trades)), False)

    def test_any_value(self):
        for q in FIELDS:
            draw = samples.drawer(q, "any value")
            free_pair = (CORE, plain.seen(q, CORE, (-1, ((0, 0, 0, 1),), (), SAME)))
            self.assertTrue(is_spread(q, free_pair))
            for pair in (free_pair, (CORE, BENT), (repeated(q, CORE, 2), CORE), traded(q, free_pair, "1+2")):
                found = free.judge_free(q, *pair)
                things = samples.odd_values() + samples.spoilt(found, draw, 80) + [list(found), found[::-1], found * 2]
                things += [("free", []), ("free", ["1+2"]), ("free", ("1+2", None)), ("free", ("1*2",)), ("free", "1+2")]
                things += [("free",), ("free", (), ()), ("free", ((),)), ("free", None), ("free", ([],)), ("free", (1, 2))]
                things += [("free", trades) for trades in ((), ("1+2",), ("1-2",), ("2+1",), ("2-1",), ("1+2", "1-2"))]
                for word in ((1,), (2,), (1, 2), (-2,), (1, -1), (1, -1, 2), (), (2, 2, -2), (3,), (0,), (1, -2, -2),
                             (True,), (None,), [1], [2], "2", 2, None, (1, -2), (1, 1, -2), ((2,),)):
                    for n in (1, 2, 3, 4, 6, 12, 60, 0, -1, -2, True, False, None, "1", (1,), 10 ** 39):
                        things.append(("tied", word, n))
                things += [("tied", (2,)), ("tied", (2,), 2, 2), ("TIED", (2,), 2), ({}, (2,), 2), (None, ()), ("", ())]
                for thing in things:
                    self.assertIs(free.free_holds(q, *pair, thing), plainly_right(q, pair, thing), (pair, thing))


class Words(unittest.TestCase):
    def free_pairs(self, q, draw):
        found = [pair for pair in pairs_of_growing(q, draw) if free.are_free(q, *pair)]
        short = next(pair for pair in found if max(len(step[1]) for step in pair) < 3)
        for trades in (("1+2",), ("2-1", "1+2")):
            pair = short
            for trade in trades:
                pair = traded(q, pair, trade)
            found.append(pair)
        return found

    def test_told_back(self):
        for q in FIELDS:
            draw = samples.drawer(q, "told back")
            for one, other in self.free_pairs(q, draw):
                most = 11 if len(one[1]) + len(other[1]) < 6 else 5
                for length in (0, 1, 2, 3, most):
                    word = samples.word(draw, 2, length)
                    step = families.word_step(q, (one, other), word)
                    found = free.free_word(q, one, other, step)
                    self.assertEqual([found, type(found)], [word, tuple])

    def test_all_short_words(self):
        for q in (2, 3, 16):
            draw = samples.drawer(q, "all words")
            one, other = self.free_pairs(q, draw)[0]
            listed = {NOTHING: ()}
            for step, word in list(listed.items()):
                listed.update(self.longer(q, (one, other), step, word))
            for step, word in list(listed.items()):
                listed.update(self.longer(q, (one, other), step, word))
            self.assertEqual(len(listed), 17)
            for step, word in listed.items():
                self.assertEqual(free.free_word(q, one, other, step), word)

    def longer(self, q, pair, step, word):
        found = {}
        for letter, move in listing.moves(q, pair):
            if not word or word[-1] != -letter:
                found[steps.product(q, step, move)] = (*word, letter)
        return found

    def test_letters_beside_their_undoings(self):
        for q in FIELDS:
            draw = samples.drawer(q, "cancelled")
            one, other = self.free_pairs(q, draw)[0]
            step = families.word_step(q, (one, other), (1, 2, -2, -1, -1, 2, 1, -1))
            self.assertEqual(free.free_word(q, one, other, step), (-1, 2))

    def test_steps_that_are_no_deeds(self):
        for q in FIELDS:
            draw = samples.drawer(q, "no deeds")
            for one, other in self.free_pairs(q, draw)[:4]:
                tries = [TURNED, BENT, samples.step(q, draw, (2,) * 30), samples.resting_step(q, draw, 2)]
                twice = families.word_step(q, (one, other), (1, 2, 1))
                tries += [steps.product(q, twice, samples.resting_step(q, draw, 0)), steps.product(q, BENT, twice)]
                for step in tries:
                    # Deeds of free steps that are not nothing grow; and the others are told by their words.
                    found = free.free_word(q, one, other, step)
                    if found is not None:
                        self.assertEqual(families.word_step(q, (one, other), found), step)
                    if plain.walk(q, step) == 0 and step != NOTHING:
                        self.assertIsNone(found)

    def test_deeds_of_the_squares(self):
        """u and v are no deeds of u u and v, or of u and v v; the words of those that are, are told in these."""
        for q in FIELDS:
            draw = samples.drawer(q, "squares")
            u, v = growing(q, draw, 1), growing(q, draw, 1, 1)
            if not free.are_free(q, u, v):
                continue
            square = steps.product(q, u, u)
            self.assertIsNone(free.free_word(q, square, v, u))
            self.assertEqual(free.free_word(q, square, v, square), (1,))
            for word, right in (((1, 1, 2), (1, 2)), ((1, 2), None), ((2, 1, 1, -2, -1, -1), (2, 1, -2, -1)),
                                ((2, 1, 2), None), ((2, 1, 2, -1, -2), None)):
                self.assertEqual(free.free_word(q, square, v, families.word_step(q, (u, v), word)), right)

    def test_pairs_that_are_not_free(self):
        for q in FIELDS:
            draw = samples.drawer(q, "not free")
            for one, other in tied_pairs(q, draw)[:8]:
                for step in (NOTHING, one, samples.step(q, draw, (2, 3))):
                    with self.assertRaises(NotFree) as caught:
                        free.free_word(q, one, other, step)
                    self.assertTrue(plainly_right(q, (one, other), caught.exception.certificate))
                    self.assertEqual(caught.exception.certificate[0], "tied")


class Unlike(unittest.TestCase):
    def test_free_steps(self):
        for q in FIELDS:
            draw = samples.drawer(q, "unlike")
            for one, other in pairs_of_growing(q, draw)[:3]:
                if free.are_free(q, one, other):
                    for n in range(5):
                        self.assertEqual(free.unlike(q, (one, other), n), 2 * 3 ** n - 1)

    def test_against_listing(self):
        for q in FIELDS:
            draw = samples.drawer(q, "listing")
            for many, most in ((1, 4), (2, 4), (3, 3), (4, 3)):
                family = tuple(samples.resting_step(q, draw, draw.randrange(2)) for _ in range(many))
                found, layer = {NOTHING}, {NOTHING}
                for n in range(most + 1):
                    self.assertEqual(free.unlike(q, family, n), len(found))
                    if n < most:
                        layer = {steps.product(q, step, move) for step in layer for _, move in listing.moves(q, family)}
                        found |= layer

    def test_known_numbers(self):
        for q in FIELDS:
            self.assertEqual([free.unlike(q, (NOTHING,), n) for n in range(5)], [1] * 5)
            self.assertEqual([free.unlike(q, (TURNED, TURNED), n) for n in range(3)], [1, 2, 2])
            self.assertEqual([free.unlike(q, (CORE,), n) for n in range(5)], [1, 3, 5, 7, 9])
            self.assertEqual(free.unlike(q, (CORE, CORE, CORE, CORE), 3), 7)

    def test_refused(self):
        for q in FIELDS:
            for family, place in (((), -1), (None, -1), ([CORE], -1), ((CORE, None), 1), ((5,), 0), ((CORE,) * 5, -1)):
                with self.assertRaises(BadFamily) as caught:
                    free.unlike(q, family, 2)
                self.assertEqual(caught.exception.place, place)


class Refused(unittest.TestCase):
    def test_first_that_is_no_step(self):
        for q in FIELDS:
            draw = samples.drawer(q, "bad steps")
            good = samples.core(q, draw, (2, 3))
            for bad in samples.odd_values() + samples.spoilt(good, draw, 20):
                if reference.is_step(q, bad):
                    continue
                other = ("no", "step")
                calls = (
                    lambda: free.traded(q, bad, other, "1+2"), lambda: free.traded(q, good, bad, "no trade"),
                    lambda: free.is_spread(q, bad, other), lambda: free.is_spread(q, good, bad),
                    lambda: free.judge_free(q, bad, other), lambda: free.judge_free(q, good, bad),
                    lambda: free.free_holds(q, bad, other, ()), lambda: free.free_holds(q, good, bad, None),
                    lambda: free.are_free(q, bad, other), lambda: free.are_free(q, good, bad),
                    lambda: free.free_word(q, bad, other, None), lambda: free.free_word(q, good, bad, other),
                    lambda: free.free_word(q, good, good, bad), lambda: free.free_word(q, NOTHING, good, bad),
                )
                for call in calls:
                    with self.assertRaises(BadStep) as caught:
                        call()
                    self.assertIs(caught.exception.thing, bad)


if __name__ == "__main__":
    unittest.main()
