"""Part 13: polynomials that a family keeps, bases, sums and products over rounds."""

import unittest
from itertools import product

from bentplane import kept, kinds, polys, steps
from bentplane.errors import BadFamily, BadStep, NotResting
from tests import plain, reference, samples
from tests.plain import NOTHING, SAME, SWAP
from tests.reference import FIELDS

BEND = (0, 0, 1)
BENT = (-1, (BEND,), (), SAME)
TURNED = (-1, (), (), SWAP)


def exponents(n):
    return sorted(((i, j) for i in range(n + 1) for j in range(n + 1 - i)), key=lambda at: (at[0] + at[1], at[0]))


def keeps(q, step, poly):
    """Whether a step keeps a polynomial, by the words of [13.1]."""
    pair = [reference.as_dict(part) for part in steps.pair_of(q, step)]
    return reference.as_poly(reference.put(q, reference.as_dict(poly), pair)) == poly


def all_polys(q, n):
    places = exponents(n)
    for numbers in product(range(q), repeat=len(places)):
        yield reference.as_poly({at: c for at, c in zip(places, numbers)})


def rank(q, rows):
    """How many of some dicts of numbers are needed to make the others."""
    many, rows = 0, [dict(row) for row in rows if row]
    while rows:
        first = rows.pop()
        many += 1
        at = next(iter(first))
        share = reference.inverse(q, first[at])
        left = []
        for row in rows:
            scale = reference.opposite(q, reference.times(q, row.get(at, 0), share))
            less = reference.poly_plus(q, row, {k: reference.times(q, scale, c) for k, c in first.items()})
            if less:
                left.append(less)
        rows = left
    return many


def changes(q, family, n):
    """For each term of degree at most n a dict that tells how all steps of the family change it."""
    found = []
    for at in exponents(n):
        row = {}
        for k, step in enumerate(family):
            pair = [reference.as_dict(part) for part in steps.pair_of(q, step)]
            less = {at: reference.opposite(q, 1)}
            change = reference.poly_plus(q, reference.put(q, {at: 1}, pair), less)
            row.update({(k, i, j): c for (i, j), c in change.items()})
        found.append(row)
    return found


def leading(poly):
    return max(((i, j) for i, j, _ in poly), key=lambda at: (at[0] + at[1], at[0]))


def small_families(q, draw):
    """Families of steps that rest or grow, of degrees of at most 3."""
    found = [(NOTHING,), (TURNED,), (BENT,), (TURNED, BENT), (NOTHING, TURNED)]
    found += [(samples.straight_step(q, draw),), (samples.straight_step(q, draw), samples.straight_step(q, draw))]
    found += [((-1, (samples.bend(q, draw, 2),), (), samples.map_of_both(q, draw)),)]
    found += [((-1, (samples.bend(q, draw, 3),), (), SAME), (-1, (), (), (1, 0, 0, 0, 1, 1)))]
    change = samples.step(q, draw, ())
    found.append(tuple(plain.seen_back(q, s, change) for s in (BENT, (-1, (), (), (1, 0, 1, 0, 1, 0)))))
    found += [(samples.step(q, draw, (2,)),), (samples.core(q, draw, (2,)), TURNED)]
    return found


class Bases(unittest.TestCase):
    def check_form(self, q, family, n, base):
        self.assertEqual(type(base), tuple)
        heads = [leading(poly) for poly in base]
        self.assertEqual(heads, sorted(set(heads), key=lambda at: (at[0] + at[1], at[0])))
        for poly, head in zip(base, heads):
            self.assertTrue(reference.is_poly(q, poly))
            self.assertLessEqual(polys.degree(poly), n)
            terms = reference.as_dict(poly)
            self.assertEqual([at for at in heads if at in terms], [head])
            self.assertEqual(terms[head], 1)
            self.assertTrue(all(keeps(q, step, poly) for step in family))
            self.assertIs(kept.has_kept(q, family, poly), True)
        self.assertEqual(base[0], ((0, 0, 1),))

    def test_against_a_search(self):
        for q, n in ((2, 0), (2, 1), (2, 2), (2, 3), (3, 0), (3, 1), (3, 2), (4, 1), (5, 1), (7, 1)):
            draw = samples.drawer(q, n, "search")
            for family in small_families(q, draw):
                base = kept.kept_base(q, family, n)
                self.check_form(q, family, n, base)
                if q ** len(exponents(n)) <= 130 or family in ((TURNED,), (BENT,), (TURNED, BENT)):
                    right = [poly for poly in all_polys(q, n) if all(keeps(q, step, poly) for step in family)]
                    self.assertEqual(len(right), q ** len(base))
                    self.assertEqual(set(right), set(self.sums(q, base)))

    def sums(self, q, base):
        for numbers in product(range(q), repeat=len(base)):
            total = {}
            for c, poly in zip(numbers, base):
                total = reference.poly_plus(q, total, {at: reference.times(q, c, d) for at, d in reference.as_dict(poly).items() if c})
            yield reference.as_poly(total)

    def test_as_many_as_there_must_be(self):
        for q in FIELDS:
            draw = samples.drawer(q, "many")
            for family in small_families(q, draw):
                for n in (0, 1, 2, 4):
                    base = kept.kept_base(q, family, n)
                    self.check_form(q, family, n, base)
                    self.assertEqual(len(base), len(exponents(n)) - rank(q, changes(q, family, n)))

    def test_greatest_degrees(self):
        for q in FIELDS:
            draw = samples.drawer(q, "greatest")
            for degrees, n in (((6,), 6), ((2, 3), 6), ((3,), 6), ((), 6), ((2, 2), 5), ((6, 6), 1), ((4, 3), 3), ((6, 6), 0)):
                family = (samples.step(q, draw, degrees),)
                base = kept.kept_base(q, family, n)
                if n < 6 or degrees == ():
                    self.check_form(q, family, n, base)
                    self.assertEqual(len(base), len(exponents(n)) - rank(q, changes(q, family, n)))
                else:
                    # (x + f(y), y): kept are the polynomials in y, and others.
                    bent = ((-1, (samples.bend(q, draw, 6),), (), SAME),)
                    found = kept.kept_base(q, bent, n)
                    for k in range(n + 1):
                        self.assertIn(((0, k, 1),), found)
                    self.check_form(q, bent, n, found)

    def test_known_bases(self):
        for q in FIELDS:
            every = tuple(((i, j, 1),) for i, j in exponents(3))
            self.assertEqual(kept.kept_base(q, (NOTHING,), 3), every)
            pairs = tuple(
                ((j, i, 1), (i, j, 1)) if i != j else ((i, i, 1),) for i, j in exponents(3) if i >= j)
            self.assertEqual(kept.kept_base(q, (TURNED,), 3), pairs)
            self.assertEqual(kept.kept_base(q, (TURNED, (-1, (), (), (1, 0, 1, 0, 1, 0))), 1)[0], ((0, 0, 1),))

    def test_order_and_repeats(self):
        for q in FIELDS:
            draw = samples.drawer(q, "order")
            family = (samples.straight_step(q, draw), TURNED, (-1, (samples.bend(q, draw, 2),), (), SAME))
            for n in (1, 3, 5):
                for few in (family, family[:2], family[1:]):
                    base = kept.kept_base(q, few, n)
                    self.assertEqual(kept.kept_base(q, few[::-1], n), base)
                    self.assertEqual(kept.kept_base(q, (few + few)[:4], n), base)
                    self.assertEqual(kept.kept_base(q, few[:1] + few, n), base)
                    self.assertEqual(kept.kept_base(q, tuple(steps.undoing(q, s) for s in few), n), base)

    def test_lesser_degrees(self):
        for q in FIELDS:
            draw = samples.drawer(q, "lesser")
            for family in small_families(q, draw):
                base = kept.kept_base(q, family, 5)
                for n in range(5):
                    right = tuple(poly for poly in base if polys.degree(poly) <= n)
                    self.assertEqual(kept.kept_base(q, family, n), right)


class Kept(unittest.TestCase):
    def test_sums_of_the_base(self):
        for q in FIELDS:
            draw = samples.drawer(q, "sums")
            for family in small_families(q, draw):
                total = ()
                for poly in kept.kept_base(q, family, 4):
                    total = polys.poly_plus(q, total, polys.poly_scaled(q, poly, draw.randrange(q)))
                self.assertIs(kept.has_kept(q, family, total), True)
                self.assertIs(kept.has_kept(q, family, ()), True)
                self.assertIs(kept.has_kept(q, family, ((0, 0, q - 1),)), True)
                self.check_changed(q, draw, family, total)

    def check_changed(self, q, draw, family, poly):
        for _ in range(6):
            terms = reference.as_dict(poly)
            at = draw.choice(exponents(4))
            terms[at] = draw.randrange(q)
            changed = reference.as_poly(terms)
            right = all(keeps(q, step, changed) for step in family)
            self.assertIs(kept.has_kept(q, family, changed), right)

    def test_long_polynomials(self):
        for q in FIELDS:
            draw = samples.drawer(q, "long")
            poly = samples.poly(q, draw, 36, 0.2)
            self.assertIs(kept.has_kept(q, (NOTHING, NOTHING), poly), True)
            both = polys.poly_plus(q, poly, polys.put(q, poly, (((0, 1, 1),), ((1, 0, 1),))))
            self.assertIs(kept.has_kept(q, (TURNED,), both), True)
            self.assertIs(kept.has_kept(q, (TURNED,), polys.poly_plus(q, both, ((35, 0, 1),))), False)

    def test_wrong_ones_of_any_degree(self):
        for q in FIELDS:
            draw = samples.drawer(q, "any degree")
            for poly in (((10 ** 39, 0, 1),), ((0, 10 ** 39, 1), (3, 10 ** 20, 1)), ((37, 0, 1),), ((0, 1000, 1), (900, 0, 1))):
                for family in ((TURNED,), (samples.step(q, draw, (6, 6)), TURNED), (TURNED, BENT)):
                    self.assertIs(kept.has_kept(q, family, poly), False)
            self.assertIs(kept.has_kept(q, (samples.core(q, draw, (6, 6)),), ((0, 1, 1), (2, 0, 1))), False)

    def test_any_value(self):
        for q in FIELDS:
            draw = samples.drawer(q, "any value")
            poly = ((0, 1, 1), (1, 0, 1))
            things = samples.odd_values() + samples.spoilt(poly, draw, 80) + [list(poly), poly[::-1], (poly,), ((0, 1, q),)]
            things += [((0, 1, 0),), ((0, 1, 1), (0, 1, 1)), ((-1, 0, 1),), ((True, 0, 1),), ((0, 0, True),)]
            for thing in things:
                right = reference.is_poly(q, thing) and max([i + j for i, j, _ in thing], default=0) <= 36
                self.assertIs(kept.has_kept(q, (TURNED,), thing), right and keeps(q, TURNED, thing), thing)

    def test_refused_families(self):
        for q in FIELDS:
            for family, place in (((), -1), (None, -1), ([TURNED], -1), ((TURNED,) * 5, -1), ((5,), 0), ((TURNED, None), 1),
                                  ((TURNED, BENT, (), None), 2)):
                for call in (lambda: kept.kept_base(q, family, 2), lambda: kept.has_kept(q, family, ()),
                             lambda: kept.has_kept(q, family, None)):
                    with self.assertRaises(BadFamily) as caught:
                        call()
                    self.assertEqual(caught.exception.place, place)


def resting_steps(q, draw):
    """Steps that rest, with an order of at most 12, and each repeat of which has a degree of at most 6."""
    tries = [NOTHING, TURNED, BENT, (-1, (samples.bend(q, draw, 3),), (), SAME)]
    tries += [samples.straight_step(q, draw) for _ in range(6)] + [samples.bent_step(q, draw, 2) for _ in range(6)]
    tries += [plain.seen(q, TURNED, BENT), plain.seen(q, (-1, (), (), (1, 0, 1, 0, 1, 0)), BENT)]
    tries += [plain.seen(q, BENT, TURNED), plain.seen(q, TURNED, (-1, (samples.bend(q, draw, 2),), (), SAME))]
    return [(step, kinds.order(q, step)) for step in tries if kinds.order(q, step) <= 12]


class Rounds(unittest.TestCase):
    def test_sums_and_products(self):
        for q in FIELDS:
            draw = samples.drawer(q, "rounds")
            for step, order in resting_steps(q, draw):
                for poly in ((), ((0, 0, q - 1),), ((1, 0, 1),), ((0, 1, 1),), samples.poly(q, draw, 2), samples.poly(q, draw, 3)):
                    self.check_round(q, step, order, poly)

    def check_round(self, q, step, order, poly):
        total, both, repeated = {}, {(0, 0): 1}, NOTHING
        degrees = 0
        for _ in range(order):
            pair = [reference.as_dict(part) for part in steps.pair_of(q, repeated)]
            part = reference.put(q, reference.as_dict(poly), pair)
            degrees += reference.degree(part)
            total = reference.poly_plus(q, total, part)
            if degrees <= 36:
                both = reference.poly_times(q, both, part)
            repeated = steps.product(q, repeated, step)
        found = kept.round_sum(q, step, poly)
        self.assertEqual(found, reference.as_poly(total))
        if polys.degree(found) * max(len(step[1]) * 2, 1) <= 9:
            self.assertTrue(keeps(q, step, found))
            self.assertIs(kept.has_kept(q, (step,), found), True)
        if degrees <= 36:
            found = kept.round_product(q, step, poly)
            self.assertEqual(found, reference.as_poly(both))
            if polys.degree(found) * max([len(bend) - 1 for bend in step[1]], default=1) <= 36 and len(step[1]) < 2:
                self.assertIs(kept.has_kept(q, (step,), found), True)

    def test_zero_and_numbers_alone(self):
        for q in FIELDS:
            p = reference.characteristic(q)
            self.assertEqual([kept.round_sum(q, BENT, ()), kept.round_product(q, BENT, ())], [(), ()])
            for c in range(1, q):
                many = reference.times(q, reference.ones(q, 2), c)
                self.assertEqual(kept.round_sum(q, TURNED, ((0, 0, c),)), ((0, 0, many),) if many else ())
                self.assertEqual(kept.round_product(q, TURNED, ((0, 0, c),)), ((0, 0, reference.times(q, c, c)),))
                self.assertEqual(kept.round_sum(q, BENT, ((0, 0, c),)), ())
                self.assertEqual(kept.round_product(q, BENT, ((0, 0, c),)), ((0, 0, reference.power(q, c, p)),))
            self.assertEqual(kept.round_sum(q, NOTHING, ((3, 4, 1),)), ((3, 4, 1),))
            self.assertEqual(kept.round_product(q, NOTHING, ((3, 4, 1),)), ((3, 4, 1),))

    def test_great_orders(self):
        """A straight map of an order up to 60, and polynomials of degree up to 36."""
        for q in FIELDS:
            draw = samples.drawer(q, "great")
            step = samples.straight_step(q, draw)
            while not 3 <= kinds.order(q, step) <= 60:
                step = samples.straight(q, draw)
                step = (-1, (), (), step)
            found = kept.round_sum(q, step, samples.poly(q, draw, 12, 0.3))
            self.assertIs(kept.has_kept(q, (step,), found), True)
            if kinds.order(q, step) <= 36:
                found = kept.round_product(q, step, samples.poly(q, draw, 1, 1))
                self.assertIs(kept.has_kept(q, (step,), found), True)

    def test_refused(self):
        for q in FIELDS:
            draw = samples.drawer(q, "refused")
            good = samples.core(q, draw, (2, 3))
            for bad in samples.odd_values() + samples.spoilt(good, draw, 20):
                if reference.is_step(q, bad):
                    continue
                for ask in (kept.round_sum, kept.round_product):
                    with self.assertRaises(BadStep) as caught:
                        ask(q, bad, ((1, 0, 1),))
                    self.assertIs(caught.exception.thing, bad)
            for ask in (kept.round_sum, kept.round_product):
                for grows in (good, plain.seen_back(q, good, samples.step(q, draw, (2,)))):
                    with self.assertRaises(NotResting) as caught:
                        ask(q, grows, ((1, 0, 1),))
                    self.assertIs(caught.exception.thing, grows)


if __name__ == "__main__":
    unittest.main()
