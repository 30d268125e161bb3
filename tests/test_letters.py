"""Part 8, [8.1] to [8.3]: rounds, maps of both sorts, least forms, kin steps."""

import unittest

from bentplane import kinds, letters, steps
from bentplane.errors import BadStep, NotGrowing
from tests import plain, reference, samples
from tests.plain import NOTHING, SAME, SWAP
from tests.reference import FIELDS
from tests.test_kinds import any_steps, resting_steps

BEND = (0, 0, 1)

# The fields over which kin steps are asked for, and the most bends of steps over them.
ASKED = ((2, 6), (3, 6), (4, 2), (5, 2))


def bend_of_special_form(q, draw):
    """Bends that some maps leave as they are: one power of y, or powers with exponents that p divides."""
    degree = draw.choice((2, 3, 4, 6))
    return (0,) * degree + (1,)


def cores(q, draw, most, many):
    """Short steps that grow, with up to so many bends; many of them are repeats or have special bends."""
    found = []
    for _ in range(many):
        size = draw.randrange(1, most + 1)
        core = samples.core(q, draw, [draw.choice((2, 2, 3, 4, 5, 6)) for _ in range(size)])
        if draw.random() < 0.4:
            bends = tuple(bend_of_special_form(q, draw) for _ in range(size))
            core = (-1, bends, (0,) * (size - 1), draw.choice((core[3], SWAP)))
        found.append(core)
        parts = [n for n in (2, 3, 4, 6) if n * size <= most]
        if parts:
            found.append(steps.repeat(q, core, draw.choice(parts)))
    return found


def seen_by_drawn(q, draw, core, most):
    """The core seen back by a drawn change, with at most so many bends in all."""
    many = draw.randrange(max(most - len(core[1]), 0) // 2 + 1)
    return plain.seen_back(q, core, samples.step(q, draw, samples.some_degrees(draw, many)))


class Rounds(unittest.TestCase):
    def test_next_round(self):
        for q in FIELDS:
            draw = samples.drawer(q, "next round")
            for core in cores(q, draw, 6, 12):
                found = letters.next_round(q, core)
                self.assertEqual(found, plain.next_round(q, core))
                self.assertEqual(plain.sort_of_short(found), 3)
                bends = core[1]
                if len(bends) == 1:
                    self.assertEqual(found, core)
                else:
                    self.assertEqual(found[1][:-1], bends[1:])
                    self.assertIn(found[1][-1], self.changed(q, bends[0]))
                    self.assertEqual(steps.degrees_of(q, found), steps.degrees_of(q, core[:1] + (bends[1:] + bends[:1],) + core[2:]))

    def changed(self, q, bend):
        """The bend behind all maps of both sorts: its numbers from the second power on, seen by e y + f, over a."""
        found = []
        for e in range(1, q):
            for f in range(q):
                part = put(q, bend, e, f)
                found += [tuple(reference.times(q, a, c) for c in part) for a in range(1, q)]
        return found

    def test_rounds(self):
        for q in FIELDS:
            draw = samples.drawer(q, "rounds")
            for core in cores(q, draw, 6, 12):
                found = letters.rounds(q, core)
                self.assertEqual([type(found), len(found)], [tuple, len(core[1])])
                self.assertEqual(found, plain.rounds(q, core))
                self.assertEqual(found[0], core)
                # Behind the last round the first one comes again, seen by a map of both sorts.
                after = letters.next_round(q, found[-1])
                if len(found) > 1:
                    whole = steps.product(q, steps.undoing(q, self.all_turns(q, core)), core)
                    self.assertTrue(plain.is_bent_map(whole) and whole[1] == ())
                    self.assertEqual(plain.seen(q, after, whole), core)

    def all_turns(self, q, core):
        """All bends of the core, each with a turn behind it: the one at the end is that of its last map."""
        _, bends, turns, last = core
        turns += (reference.times(q, last[4], reference.inverse(q, last[3])),)
        row = []
        for bend, turn in zip(bends, turns):
            row += [("bend", bend), plain.turn(turn)]
        return steps.step_of_row(q, tuple(row))

    def test_rounds_of_repeats(self):
        """A round of a repeat is the same repeat of the round."""
        for q in FIELDS:
            draw = samples.drawer(q, "repeats")
            for size, n in ((1, 2), (1, 6), (2, 2), (2, 3), (3, 2)):
                core = samples.core(q, draw, samples.some_degrees(draw, size))
                again = steps.repeat(q, core, n)
                right = letters.rounds(q, core)
                found = letters.rounds(q, again)
                self.assertEqual(len(found), size * n)
                for at, turned in enumerate(right):
                    self.assertEqual(found[at], steps.repeat(q, turned, n))

    def test_what_is_not_short(self):
        for q in FIELDS:
            draw = samples.drawer(q, "not short")
            core = samples.core(q, draw, (2, 3))
            things = samples.odd_values() + samples.spoilt(core, draw, 60)
            things += [NOTHING, (-1, (), (), SWAP), samples.bent_step(q, draw), (0, *core[1:]), (q - 1, *core[1:])]
            things += [(*core[:3], samples.map_of_both(q, draw)), *resting_steps(q, draw)[:12]]
            for thing in things:
                if reference.is_step(q, thing) and plain.sort_of_short(thing) == 3:
                    continue
                for call in (letters.next_round, letters.rounds, letters.keeping_maps):
                    with self.assertRaises(BadStep) as caught:
                        call(q, thing)
                    self.assertIs(caught.exception.thing, thing)


class MapsOfBoth(unittest.TestCase):
    def test_all_of_them(self):
        for q in FIELDS:
            found = letters.maps_of_both(q)
            self.assertIs(type(found), tuple)
            self.assertEqual(len(found), (q - 1) ** 2 * q ** 3)
            self.assertTrue(all(one < other for one, other in zip(found, found[1:])))
            for m in found if q < 6 else found[::q ** 3 - 1]:
                self.assertTrue(reference.is_straight(q, m))
                self.assertEqual(m[3], 0)
            if q < 10:
                self.assertEqual(list(found), sorted(plain.maps_of_both(q)))

    def test_short_steps_seen_by_them_are_short(self):
        for q in FIELDS:
            draw = samples.drawer(q, "stay short")
            for core in cores(q, draw, 6, 6):
                for _ in range(4):
                    found = kinds.seen(q, core, (-1, (), (), samples.map_of_both(q, draw)))
                    self.assertEqual([plain.sort_of_short(found), len(found[1])], [3, len(core[1])])


def put(q, bend, e, f):
    """The bend with e y + f in the place of y, from the second power on."""
    found = {}
    for k, c in enumerate(bend):
        term = {(0, 0): c} if c else {}
        for _ in range(k):
            term = reference.poly_times(q, term, {at: n for at, n in (((0, 1), e), ((0, 0), f)) if n})
        found = reference.poly_plus(q, found, term)
    return (0, 0) + tuple(found.get((0, k), 0) for k in range(2, len(bend)))


def plain_keeping_maps(q, core):
    """All maps of both sorts are tried; over more than 5 only those that leave the first bend as it is."""
    maps = plain.maps_of_both(q) if q <= 5 else []
    bend = core[1][0]
    for e in range(1, q) if q > 5 else ():
        for f in range(q):
            part = put(q, bend, e, f)
            a = reference.times(q, part[-1], reference.inverse(q, bend[-1]))
            if part == tuple(reference.times(q, a, c) for c in bend):
                maps += [(a, b, c, 0, e, f) for b in range(q) for c in range(q)]
    return tuple(sorted(m for m in maps if plain.seen(q, core, (-1, (), (), m)) == core))


class KeepingMaps(unittest.TestCase):
    def test_all_of_them(self):
        for q in FIELDS:
            draw = samples.drawer(q, "keeping")
            few = cores(q, draw, 6, 6)[:8] if q <= 5 else cores(q, draw, 3, 3)[:3]
            few.append((-1, ((0, 0, 0, 1),), (), SWAP))
            for core in few:
                found = letters.keeping_maps(q, core)
                self.assertIs(type(found), tuple)
                self.assertEqual(found, plain_keeping_maps(q, core))
                self.assertIn(SAME, found)

    def test_more_than_one(self):
        """(x, y) goes to (y, x + y^d): (e x, e y) keeps it for each number e with e^d = e."""
        for q in FIELDS:
            for d in range(2, 7):
                core = (-1, ((0,) * d + (1,),), (), SWAP)
                found = letters.keeping_maps(q, core)
                for e in range(1, q):
                    self.assertIs((e, 0, 0, 0, e, 0) in found, reference.power(q, e, d) == e)

    def test_shifts(self):
        self.assertEqual(letters.keeping_maps(2, (-1, ((0, 0, 1, 0, 1),), (), SWAP)), (SAME, (1, 0, 1, 0, 1, 1)))

    def test_products_of_them(self):
        for q in FIELDS:
            draw = samples.drawer(q, "group")
            for core in cores(q, draw, 3, 6):
                found = letters.keeping_maps(q, core)
                for one in found[:12]:
                    for other in found[:12]:
                        both = steps.product(q, (-1, (), (), one), (-1, (), (), other))
                        self.assertIn(both[3], found)


class LeastForms(unittest.TestCase):
    def test_least_of_all_kin(self):
        for q, most in ASKED:
            draw = samples.drawer(q, "least form")
            for core in cores(q, draw, most, 8 if q < 4 else 4):
                right = min(plain.kin_of_short(q, core))
                for step in (core, seen_by_drawn(q, draw, core, most), seen_by_drawn(q, draw, core, most)):
                    found = letters.least_form(q, step)
                    self.assertEqual([type(found), len(found)], [tuple, 2])
                    form, change = found
                    self.assertEqual(form, right)
                    self.assertTrue(reference.is_step(q, change))
                    self.assertEqual(plain.seen(q, step, change), form)
                    self.assertLessEqual(len(change[1]), 30)

    def test_all_kin_have_the_same(self):
        for q, most in ASKED:
            draw = samples.drawer(q, "same form")
            core = cores(q, draw, most, 1)[0]
            kin = sorted(plain.kin_of_short(q, core))
            form = letters.least_form(q, core)[0]
            self.assertEqual(form, kin[0])
            for other in draw.sample(kin, min(12, len(kin))):
                self.assertEqual(letters.least_form(q, other)[0], form)

    def test_all_short_steps_over_2(self):
        """Classes of kin among all short steps with one or two bends of degree 2 or 3."""
        bends = (BEND, (0, 0, 0, 1), (0, 0, 1, 1))
        maps = [m for m in self.straight_maps() if m[3]]
        every = [(-1, (f,), (), m) for f in bends for m in maps]
        every += [(-1, (f, g), (t,), m) for f in bends for g in bends for t in (0, 1) for m in maps]
        forms = {step: letters.least_form(2, step)[0] for step in every}
        for step in every[::5]:
            kin = plain.kin_of_short(2, step)
            self.assertEqual(kin, {other for other in every if forms[other] == forms[step]})
            self.assertEqual(min(kin), forms[step])

    def straight_maps(self):
        found = [(a, b, c, d, e, f) for a in (0, 1) for b in (0, 1) for c in (0, 1) for d in (0, 1) for e in (0, 1)
                 for f in (0, 1)]
        return [m for m in found if reference.is_straight(2, m)]


class Kin(unittest.TestCase):
    def check_kin(self, q, one, other):
        found = letters.judge_kin(q, one, other)
        self.assertEqual([type(found), len(found), found[0]], [tuple, 2, "kin"])
        self.assertTrue(reference.is_step(q, found[1]))
        self.assertEqual(plain.seen(q, one, found[1]), other)
        self.assertIs(letters.kin_holds(q, one, other, found), True)
        self.assertIs(letters.are_kin(q, one, other), True)
        self.assertEqual(kinds.walk(q, one), kinds.walk(q, other))
        forms = [letters.least_form(q, step)[1] for step in (one, other)]
        for thing in (("unlike", *forms), ("unlike", NOTHING, NOTHING), ("unlike", found[1], NOTHING)):
            self.assertIs(letters.kin_holds(q, one, other, thing), False)

    def check_unlike(self, q, one, other):
        found = letters.judge_kin(q, one, other)
        self.assertEqual([type(found), len(found), found[0]], [tuple, 3, "unlike"])
        forms = []
        for step, change in zip((one, other), found[1:]):
            forms.append(plain.seen(q, step, change))
            self.assertEqual(forms[-1], letters.least_form(q, step)[0])
        self.assertNotEqual(*forms)
        self.assertIs(letters.kin_holds(q, one, other, found), True)
        self.assertIs(letters.are_kin(q, one, other), False)
        less = [steps.undoing(q, change) for change in found[1:]]
        tries = [NOTHING, one, found[1], found[2], steps.product(q, found[1], less[1]), steps.product(q, found[2], less[0])]
        for change in tries:
            self.assertIs(letters.kin_holds(q, one, other, ("kin", change)), False)
        self.assertIs(letters.kin_holds(q, one, other, ("kin", found[1], found[2])), False)
        self.assertIs(letters.kin_holds(q, one, other, ("unlike", found[2], found[1])),
                      [plain.seen(q, one, found[2]), plain.seen(q, other, found[1])] == forms)

    def test_steps_seen_by_drawn_changes(self):
        for q, most in ASKED:
            draw = samples.drawer(q, "seen")
            for core in cores(q, draw, most, 6):
                one, other = seen_by_drawn(q, draw, core, most), seen_by_drawn(q, draw, core, most)
                self.check_kin(q, one, other)
                self.check_kin(q, one, one)
                self.check_kin(q, other, letters.rounds(q, core)[-1])

    def test_products_in_both_orders(self):
        for q, most in ASKED:
            draw = samples.drawer(q, "both orders")
            for _ in range(8):
                one, other = any_steps(q, draw, most // 2)[-1], any_steps(q, draw, 1)[-1]
                both, turned = steps.product(q, one, other), steps.product(q, other, one)
                if plain.walk(q, both) > 0:
                    self.check_kin(q, both, turned)

    def test_steps_that_are_not_kin(self):
        for q, most in ASKED:
            draw = samples.drawer(q, "unlike")
            few = cores(q, draw, most, 4)
            classes = [plain.kin_of_short(q, core) for core in few]
            for one, kin in zip(few, classes):
                for core in few:
                    other = seen_by_drawn(q, draw, core, most)
                    if core in kin:
                        self.check_kin(q, one, other)
                    else:
                        self.check_unlike(q, one, other)

    def test_steps_that_look_alike(self):
        """A step and another one with the same degrees, or its undoing, kin or not."""
        for q, most in ASKED:
            draw = samples.drawer(q, "alike")
            for many in range(1, min(most, 3) + 1):
                core = samples.core(q, draw, (2,) * many)
                kin = plain.kin_of_short(q, core)
                others = [samples.core(q, draw, (2,) * many) for _ in range(5)]
                less = kinds.short_form(q, steps.undoing(q, core))[0]
                others += [less, (*core[:3], (*core[3][:2], reference.plus(q, core[3][2], 1), *core[3][3:]))]
                for other in others:
                    (self.check_kin if other in kin else self.check_unlike)(q, core, other)

    def test_other_certificates(self):
        for q, most in ASKED:
            draw = samples.drawer(q, "others")
            core = samples.core(q, draw, (2, 3))
            one, other = core, plain.seen(q, core, samples.step(q, draw, (2,)))
            change = letters.judge_kin(q, one, other)[1]
            for n in (-2, -1, 1, 2):
                more = steps.product(q, steps.repeat(q, one, n), change)
                self.assertIs(letters.kin_holds(q, one, other, ("kin", more)), True)
            for m in letters.keeping_maps(q, core):
                more = steps.product(q, (-1, (), (), m), change)
                self.assertIs(letters.kin_holds(q, one, other, ("kin", more)), True)
            for _ in range(20):
                more = samples.step(q, draw, samples.some_degrees(draw, draw.randrange(3)))
                right = plain.seen(q, one, more) == other
                self.assertIs(letters.kin_holds(q, one, other, ("kin", more)), right)
            unlike = samples.core(q, draw, (3, 3))
            word, first, second = letters.judge_kin(q, one, unlike)
            self.assertEqual(word, "unlike")
            first, second = steps.product(q, one, first), steps.product(q, steps.undoing(q, unlike), second)
            self.assertIs(letters.kin_holds(q, one, unlike, (word, first, second)), True)
            shift = (-1, (), (), (1, 0, 0, 0, 1, 1))
            for wrong in ((word, first, NOTHING), (word, steps.product(q, first, shift), second), (word, second, first)):
                forms = [letters.least_form(q, step)[0] for step in (one, unlike)]
                right = [plain.seen(q, one, wrong[1]), plain.seen(q, unlike, wrong[2])] == forms
                self.assertIs(letters.kin_holds(q, one, unlike, wrong), right)

    def test_any_value(self):
        for q, _ in ASKED:
            draw = samples.drawer(q, "any value")
            one = samples.core(q, draw, (2,))
            for other in (plain.seen(q, one, samples.step(q, draw, (2,))), samples.core(q, draw, (3,))):
                found = letters.judge_kin(q, one, other)
                things = samples.odd_values() + samples.spoilt(found, draw, 80)
                things += [list(found), found[::-1], found[:1], found + found[1:], ((found[0],), *found[1:]), (found,)]
                things += [("KIN", found[1]), (None, *found[1:]), ("kin",), ("unlike",), ("kin", None), ("unlike", None, 1)]
                for thing in things:
                    self.assertIs(letters.kin_holds(q, one, other, thing), self.plainly_holds(q, one, other, thing), thing)

    def plainly_holds(self, q, one, other, thing):
        if type(thing) is not tuple or not thing or not all(reference.is_step(q, part) for part in thing[1:]):
            return False
        if thing[:1] == ("kin",) and len(thing) == 2:
            return plain.seen(q, one, thing[1]) == other
        if thing[:1] == ("unlike",) and len(thing) == 3:
            seen = [plain.seen(q, one, thing[1]), plain.seen(q, other, thing[2])]
            return seen[0] != seen[1] and seen == [letters.least_form(q, step)[0] for step in (one, other)]
        return False


class Refused(unittest.TestCase):
    def raised(self, error, thing, call):
        with self.assertRaises(error) as caught:
            call()
        self.assertIs(caught.exception.thing, thing)

    def test_steps_first_then_growing_ones(self):
        for q, _ in ASKED:
            draw = samples.drawer(q, "refused")
            grows, rests, still = samples.core(q, draw, (2,)), samples.bent_step(q, draw), samples.straight_step(q, draw)
            for bad in samples.odd_values() + samples.spoilt(grows, draw, 40):
                if reference.is_step(q, bad):
                    continue
                self.raised(BadStep, bad, lambda: letters.least_form(q, bad))
                for first, second in ((bad, ("no", "step")), (bad, rests), (grows, bad), (rests, bad)):
                    self.raised(BadStep, bad, lambda: letters.judge_kin(q, first, second))
                    self.raised(BadStep, bad, lambda: letters.are_kin(q, first, second))
                    self.raised(BadStep, bad, lambda: letters.kin_holds(q, first, second, None))
            for first, second, right in ((rests, grows, rests), (grows, rests, rests), (rests, still, rests), (still, rests, still)):
                self.raised(NotGrowing, right, lambda: letters.judge_kin(q, first, second))
                self.raised(NotGrowing, right, lambda: letters.are_kin(q, first, second))
                self.raised(NotGrowing, right, lambda: letters.kin_holds(q, first, second, ("kin", NOTHING)))
            for step in resting_steps(q, draw):
                self.raised(NotGrowing, step, lambda: letters.least_form(q, step))


if __name__ == "__main__":
    unittest.main()
