"""[1.1] Fields: every sum and product, held against the rules for the digits and for w."""

import unittest

from bentplane import fields
from tests import reference, samples
from tests.reference import FIELDS


class FieldNumbers(unittest.TestCase):
    def test_all_numbers_to_a_thousand(self):
        self.assertEqual([q for q in range(-1000, 1000) if fields.is_field(q)], list(FIELDS))

    def test_any_value(self):
        for thing in samples.odd_values():
            self.assertIs(fields.is_field(thing), type(thing) is int and thing in FIELDS)
        for thing in (True, False, "2", (2,), [2], {2: 2}, None, 10 ** 39):
            self.assertIs(fields.is_field(thing), False)

    def test_characteristic(self):
        self.assertEqual([fields.characteristic(q) for q in FIELDS], [2, 3, 2, 5, 7, 2, 3, 11, 13, 2])

    def test_is_number(self):
        for q in FIELDS:
            self.assertEqual([n for n in range(-40, 40) if fields.is_number(q, n)], list(range(q)))
            for thing in samples.odd_values():
                self.assertIs(fields.is_number(q, thing), type(thing) is int and 0 <= thing < q)
            for thing in (True, False, "0", None, (0,), [0], {}, 10 ** 39):
                self.assertIs(fields.is_number(q, thing), False)


class Arithmetic(unittest.TestCase):
    def test_sums_and_products(self):
        for q in FIELDS:
            for a in range(q):
                for b in range(q):
                    self.assertEqual(fields.plus(q, a, b), reference.plus(q, a, b))
                    self.assertEqual(fields.times(q, a, b), reference.times(q, a, b))

    def test_differences_opposites_and_inverses(self):
        for q in FIELDS:
            for a in range(q):
                self.assertEqual(fields.plus(q, a, fields.opposite(q, a)), 0)
                if a != 0:
                    self.assertEqual(fields.times(q, a, fields.inverse(q, a)), 1)
                for b in range(q):
                    self.assertEqual(fields.plus(q, fields.minus(q, a, b), b), a)
                    self.assertEqual(fields.minus(q, a, b), reference.plus(q, a, reference.opposite(q, b)))

    def test_rule_for_w(self):
        for q, many in ((4, 2), (9, 2), (8, 3), (16, 4)):
            w = fields.characteristic(q)
            found = w
            for _ in range(many - 1):
                found = fields.times(q, found, w)
            self.assertEqual(found, w + 1)
            self.assertEqual(fields.plus(q, w, 1), w + 1)

    def test_order_does_not_matter(self):
        for q in FIELDS:
            for a in range(q):
                for b in range(q):
                    self.assertEqual(fields.plus(q, a, b), fields.plus(q, b, a))
                    self.assertEqual(fields.times(q, a, b), fields.times(q, b, a))

    def test_three_numbers(self):
        plus, times = fields.plus, fields.times
        for q in FIELDS:
            for a in range(q):
                for b in range(q):
                    for c in range(q):
                        self.assertEqual(plus(q, plus(q, a, b), c), plus(q, a, plus(q, b, c)))
                        self.assertEqual(times(q, times(q, a, b), c), times(q, a, times(q, b, c)))
                        self.assertEqual(times(q, a, plus(q, b, c)), plus(q, times(q, a, b), times(q, a, c)))

    def test_zero_and_one(self):
        for q in FIELDS:
            for a in range(q):
                self.assertEqual([fields.plus(q, a, 0), fields.times(q, a, 1), fields.times(q, a, 0)], [a, a, 0])


class Powers(unittest.TestCase):
    def test_small_exponents(self):
        for q in FIELDS:
            for a in range(q):
                for exponent in range(40):
                    self.assertEqual(fields.power(q, a, exponent), reference.power(q, a, exponent))

    def test_exponents_0_and_1(self):
        for q in FIELDS:
            for a in range(q):
                self.assertEqual([fields.power(q, a, 0), fields.power(q, a, 1)], [1, a])

    def test_great_exponents(self):
        draw = samples.drawer("powers")
        for q in FIELDS:
            exponents = [10 ** 12, 10 ** 12 - 1, 2 ** 39, 10 ** 6] + [draw.randrange(10 ** 12) + 1 for _ in range(10)]
            for exponent in exponents:
                self.assertEqual(fields.power(q, 0, exponent), 0)
                for a in range(1, q):
                    self.assertEqual(fields.power(q, a, exponent), reference.power(q, a, exponent % (q - 1)))

    def test_orders(self):
        for q in FIELDS:
            orders = [fields.order_of_number(q, a) for a in range(1, q)]
            for a, order in zip(range(1, q), orders):
                ones = [n for n in range(1, q) if reference.power(q, a, n) == 1]
                self.assertEqual(order, ones[0])
            self.assertEqual(orders[0], 1)
            self.assertEqual(max(orders), q - 1)


if __name__ == "__main__":
    unittest.main()
