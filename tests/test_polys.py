"""[2.1] Polynomials in two letters."""

import unittest

from bentplane import polys
from tests import reference, samples
from tests.reference import FIELDS, as_dict, as_poly


def few_polys(q, draw, most):
    """Zero, numbers alone, the letters, and some of higher degrees."""
    found = [(), ((0, 0, 1),), ((0, 0, q - 1),), ((1, 0, 1),), ((0, 1, q - 1),)]
    return found + [samples.poly(q, draw, degree) for degree in (1, 2, 3, most)]


class IsPoly(unittest.TestCase):
    def test_right_ones(self):
        for q in FIELDS:
            for thing in ((), ((0, 0, 1),), ((0, 1, q - 1), (1, 0, 1)), ((0, 0, 1), (0, 10 ** 39, 1), (36, 0, 1))):
                self.assertIs(polys.is_poly(q, thing), True)

    def test_wrong_ones(self):
        for q in FIELDS:
            wrong = (
                ((0, 0, 0),), ((0, 0, q),), ((0, 0, -1),), ((-1, 0, 1),), ((0, -1, 1),), ((1, 0, 1), (0, 1, 1)),
                ((0, 1, 1), (0, 1, 1)), ((0, 1, 1), (0, 1, q - 1)), [(0, 0, 1)], ([0, 0, 1],), ((0, 0, True),),
                ((False, 0, 1),), ((0, True, 1),), ((0, 0),), ((0, 0, 1, 1),), (0, 0, 1), ((0, 0, 1), ()), (None,),
                (("0", 0, 1),), ((0, None, 1),), ((0, 0, "1"),), None, 0, "", {}, "abc", ("abc",), (((0,), 0, 1),),
            )
            for thing in wrong:
                self.assertIs(polys.is_poly(q, thing), False, thing)

    def test_any_value(self):
        for q in FIELDS:
            draw = samples.drawer(q, "is poly")
            for thing in samples.odd_values() + samples.spoilt(samples.poly(q, draw, 3), draw, 150):
                self.assertIs(polys.is_poly(q, thing), reference.is_poly(q, thing), thing)


class Arithmetic(unittest.TestCase):
    def check(self, q, found, right):
        self.assertEqual(found, as_poly(right))
        self.assertTrue(reference.is_poly(q, found))

    def test_sums_and_differences(self):
        for q in FIELDS:
            few = few_polys(q, samples.drawer(q, "sums"), 12)
            for F in few:
                for G in few:
                    less = {at: reference.opposite(q, c) for at, c in as_dict(G).items()}
                    self.check(q, polys.poly_plus(q, F, G), reference.poly_plus(q, as_dict(F), as_dict(G)))
                    self.check(q, polys.poly_minus(q, F, G), reference.poly_plus(q, as_dict(F), less))

    def test_parts_that_vanish(self):
        for q in FIELDS:
            for F in few_polys(q, samples.drawer(q, "vanish"), 36):
                self.assertEqual(polys.poly_minus(q, F, F), ())
                less = polys.poly_minus(q, (), F)
                self.assertEqual(polys.poly_plus(q, F, less), ())
                self.assertEqual(polys.poly_plus(q, polys.poly_plus(q, ((0, 0, 1),), F), less), ((0, 0, 1),))

    def test_products(self):
        for q in FIELDS:
            few = few_polys(q, samples.drawer(q, "products"), 6)
            for F in few:
                for G in few:
                    self.check(q, polys.poly_times(q, F, G), reference.poly_times(q, as_dict(F), as_dict(G)))

    def test_products_of_great_degree(self):
        for q in FIELDS:
            draw = samples.drawer(q, "great products")
            F, G = samples.poly(q, draw, 30, 0.1), samples.poly(q, draw, 6)
            self.check(q, polys.poly_times(q, F, G), reference.poly_times(q, as_dict(F), as_dict(G)))

    def test_terms_of_a_product_that_vanish(self):
        for q in FIELDS:
            F = ((0, 1, 1), (1, 0, 1))
            G = ((0, 1, reference.opposite(q, 1)), (1, 0, 1))
            self.assertEqual(polys.poly_times(q, F, G), ((0, 2, reference.opposite(q, 1)), (2, 0, 1)))


class Parts(unittest.TestCase):
    def test_degree(self):
        self.assertEqual(polys.degree(()), -1)
        self.assertEqual(polys.degree(((0, 0, 1),)), 0)
        self.assertEqual(polys.degree(((0, 5, 1), (3, 3, 1), (4, 0, 1))), 6)
        for q in FIELDS:
            for F in few_polys(q, samples.drawer(q, "degree"), 36):
                self.assertEqual(polys.degree(F), reference.degree(as_dict(F)))

    def test_highest(self):
        self.assertEqual(polys.highest(()), ())
        self.assertEqual(polys.highest(((0, 0, 1),)), ((0, 0, 1),))
        for q in FIELDS:
            for F in few_polys(q, samples.drawer(q, "highest"), 36):
                most = max([i + j for i, j, c in F], default=None)
                self.assertEqual(polys.highest(F), tuple(term for term in F if sum(term[:2]) == most))

    def test_values(self):
        for q in FIELDS:
            for F in few_polys(q, samples.drawer(q, "values"), 8):
                for x in range(q):
                    for y in range(q):
                        self.assertEqual(polys.value(q, F, x, y), reference.poly_value(q, as_dict(F), x, y))

    def test_value_of_great_degree(self):
        for q in FIELDS:
            F = samples.poly(q, samples.drawer(q, "value 36"), 36, 0.1)
            for x, y in ((0, 0), (0, 1), (1, 0), (q - 1, q - 1), (1, q - 1)):
                self.assertEqual(polys.value(q, F, x, y), reference.poly_value(q, as_dict(F), x, y))


class Slopes(unittest.TestCase):
    def plain_slope(self, q, F, letter):
        at = "xy".index(letter)
        found = {}
        for term in F:
            if term[at] > 0:
                exponents = list(term[:2])
                exponents[at] -= 1
                found[tuple(exponents)] = reference.times(q, reference.ones(q, term[at]), term[2])
        return as_poly(found)

    def test_slopes(self):
        for q in FIELDS:
            for F in few_polys(q, samples.drawer(q, "slopes"), 36):
                for letter in "xy":
                    found = polys.slope(q, F, letter)
                    self.assertEqual(found, self.plain_slope(q, F, letter))
                    self.assertTrue(reference.is_poly(q, found))

    def test_where_a_sum_of_ones_is_0(self):
        for q in FIELDS:
            p = reference.characteristic(q)
            self.assertEqual(polys.slope(q, ((p, 0, 1),), "x"), ())
            self.assertEqual(polys.slope(q, ((0, p, 1),), "y"), ())
            self.assertEqual(polys.slope(q, ((0, p + 1, 1), (2 * p, 1, 1)), "x"), ())
            self.assertEqual(polys.slope(q, ((0, p + 1, q - 1), (2 * p, 1, 1)), "y"), ((0, p, q - 1), (2 * p, 0, 1)))

    def test_numbers_alone(self):
        for q in FIELDS:
            for letter in "xy":
                self.assertEqual(polys.slope(q, (), letter), ())
                self.assertEqual(polys.slope(q, ((0, 0, q - 1),), letter), ())


class Put(unittest.TestCase):
    def check(self, q, F, pair):
        found = polys.put(q, F, pair)
        self.assertEqual(found, as_poly(reference.put(q, as_dict(F), [as_dict(G) for G in pair])))
        self.assertTrue(reference.is_poly(q, found))

    def test_small_ones(self):
        for q in FIELDS:
            few = few_polys(q, samples.drawer(q, "put"), 3)
            for F in few:
                for G in few:
                    for H in (few[0], few[2], few[3], few[6]):
                        self.check(q, F, (G, H))

    def test_degrees_up_to_36(self):
        for q in FIELDS:
            draw = samples.drawer(q, "put 36")
            for m, n in ((36, 1), (18, 2), (6, 6), (4, 9), (2, 18), (1, 36)):
                F = samples.poly(q, draw, m, 0.03 if m > 6 else 0.3)
                self.check(q, F, (samples.poly(q, draw, n, 0.2), samples.poly(q, draw, n, 0.2)))

    def test_letters_themselves(self):
        nothing = (((1, 0, 1),), ((0, 1, 1),))
        for q in FIELDS:
            for F in few_polys(q, samples.drawer(q, "letters"), 36):
                self.assertEqual(polys.put(q, F, nothing), F)
                swapped = tuple(sorted((j, i, c) for i, j, c in F))
                self.assertEqual(polys.put(q, F, (nothing[1], nothing[0])), swapped)


if __name__ == "__main__":
    unittest.main()
