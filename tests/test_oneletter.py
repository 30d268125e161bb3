"""[1.2] Polynomials in one letter."""

import unittest

from bentplane import oneletter
from tests import reference, samples
from tests.reference import FIELDS


def trimmed(parts):
    parts = list(parts)
    while parts and parts[-1] == 0:
        parts.pop()
    return tuple(parts)


def plain_plus(q, f, g):
    size = max(len(f), len(g))
    pad = [part + (0,) * (size - len(part)) for part in (f, g)]
    return trimmed(reference.plus(q, a, b) for a, b in zip(*pad))


def plain_times(q, f, g):
    found = {}
    for i, a in enumerate(f):
        for j, b in enumerate(g):
            found[i + j] = reference.plus(q, found.get(i + j, 0), reference.times(q, a, b))
    return trimmed(found.get(k, 0) for k in range(len(f) + len(g)))


def plain_put(q, f, g):
    """The sum of the powers of g, each worked out in full."""
    found = ()
    raised = (1,)
    for c in f:
        found = plain_plus(q, found, plain_times(q, trimmed([c]), raised))
        raised = plain_times(q, raised, g)
    return found


def plain_value(q, f, number):
    found = 0
    for k, c in enumerate(f):
        found = reference.plus(q, found, reference.times(q, c, reference.power(q, number, k)))
    return found


class IsOneLetter(unittest.TestCase):
    def test_right_ones(self):
        for q in FIELDS:
            for thing in ((), (1,), (q - 1,), (0, 1), (0,) * 40 + (1,), (1,) * 41):
                self.assertIs(oneletter.is_one_letter(q, thing), True)

    def test_wrong_ones(self):
        for q in FIELDS:
            wrong = (
                (0,), (1, 0), (0, 0), [], [1], [0, 1], (True,), (False, 1), (1, True), (q,), (1, q), (-1,), (0, -1),
                ("1",), (None,), ((1,),), None, 1, "", "1", {}, {0: 1}, (1, (1,)), ([1],),
            )
            for thing in wrong:
                self.assertIs(oneletter.is_one_letter(q, thing), False, thing)

    def test_any_value(self):
        draw = samples.drawer("one letter")
        for q in FIELDS:
            things = samples.odd_values() + samples.spoilt(samples.one_letter(q, draw, 5), draw, 100)
            for thing in things:
                self.assertIs(oneletter.is_one_letter(q, thing), reference.is_one_letter(q, thing), thing)


class Arithmetic(unittest.TestCase):
    def pairs(self, q, most):
        draw = samples.drawer(q, "one letter", most)
        few = [(), (1,), (q - 1,), (0, 1)] + [samples.one_letter(q, draw, degree) for degree in (1, 2, 5, most)]
        for f in few:
            for g in few:
                yield f, g

    def test_sums(self):
        for q in FIELDS:
            for f, g in self.pairs(q, 40):
                self.assertEqual(oneletter.one_plus(q, f, g), plain_plus(q, f, g))

    def test_sums_whose_highest_powers_vanish(self):
        for q in FIELDS:
            draw = samples.drawer(q, "vanish")
            for degree in range(41):
                f = samples.one_letter(q, draw, degree)
                less = tuple(reference.opposite(q, c) for c in f)
                self.assertEqual(oneletter.one_plus(q, f, less), ())
                for left in range(degree):
                    g = samples.one_letter(q, draw, left)
                    self.assertEqual(oneletter.one_plus(q, f, plain_plus(q, g, less)), g)
                    self.assertEqual(oneletter.one_plus(q, plain_plus(q, g, less), f), g)

    def test_products(self):
        for q in FIELDS:
            for f, g in self.pairs(q, 20):
                self.assertEqual(oneletter.one_times(q, f, g), plain_times(q, f, g))

    def test_products_with_zero(self):
        for q in FIELDS:
            for f in ((), (1,), (0, 0, 1), (1,) * 41):
                self.assertEqual([oneletter.one_times(q, f, ()), oneletter.one_times(q, (), f)], [(), ()])

    def test_values(self):
        for q in FIELDS:
            draw = samples.drawer(q, "values")
            for degree in (-1, 0, 1, 2, 6, 40):
                f = samples.one_letter(q, draw, degree)
                for number in range(q):
                    self.assertEqual(oneletter.one_value(q, f, number), plain_value(q, f, number))

    def test_putting_one_into_another(self):
        for q in FIELDS:
            draw = samples.drawer(q, "put")
            for degrees in ((-1, 3), (3, -1), (0, 5), (5, 0), (1, 40), (40, 1), (6, 6), (2, 20), (20, 2), (-1, -1), (3, 4)):
                f, g = [samples.one_letter(q, draw, degree) for degree in degrees]
                self.assertEqual(oneletter.one_put(q, f, g), plain_put(q, f, g))

    def test_putting_numbers_alone(self):
        for q in FIELDS:
            f = samples.one_letter(q, samples.drawer(q, "alone"), 7)
            for number in range(q):
                self.assertEqual(oneletter.one_put(q, f, trimmed([number])), trimmed([plain_value(q, f, number)]))
                self.assertEqual(oneletter.one_put(q, trimmed([number]), f), trimmed([number]))

    def test_value_of_what_is_put_together(self):
        for q in FIELDS:
            draw = samples.drawer(q, "together")
            f, g = samples.one_letter(q, draw, 5), samples.one_letter(q, draw, 8)
            both = oneletter.one_put(q, f, g)
            for number in range(q):
                inner = oneletter.one_value(q, g, number)
                self.assertEqual(oneletter.one_value(q, both, number), oneletter.one_value(q, f, inner))


if __name__ == "__main__":
    unittest.main()
