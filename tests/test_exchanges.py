"""Part 11: exchanges of the points, those that come from steps, rows for them, pairs in between, point orders."""

import unittest

from bentplane import exchanges, pairs, peeling, steps
from bentplane.errors import BadExchange, BadStep
from tests import plain, reference, samples
from tests.plain import NOTHING, SAME, SWAP
from tests.reference import FIELDS

BEND = (0, 0, 1)
ASKED = (exchanges.is_even, exchanges.can_come, exchanges.row_for, exchanges.round_lengths, exchanges.pair_between)


def points(q):
    return [(x, y) for x in range(q) for y in range(q)]


def moved_by_row(q, row):
    """The exchange of a row of pieces, point by point."""
    found = []
    for point in points(q):
        for sort, m in row:
            if sort == "straight":
                point = plain.moved_point(q, m, point)
            else:
                x, y = point
                for k, c in enumerate(m):
                    x = reference.plus(q, x, reference.times(q, c, reference.power(q, y, k)))
                point = (x, y)
        found.append(point[0] * q + point[1])
    return tuple(found)


def then(one, other):
    return tuple(other[n] for n in one)


def undone(exchange):
    return tuple(exchange.index(n) for n in range(len(exchange)))


def wrong_orders(exchange):
    return sum(1 for k, n in enumerate(exchange) for m in exchange[k + 1:] if m < n)


def drawn(q, draw):
    found = list(range(q * q))
    draw.shuffle(found)
    return tuple(found)


def few_moved(q, draw, many):
    """So many points moved round, all others still."""
    found, numbers = list(range(q * q)), draw.sample(range(q * q), many)
    for at, n in enumerate(numbers):
        found[n] = numbers[at - 1]
    return tuple(found)


def lengths(exchange):
    found, left = [], set(range(len(exchange)))
    while left:
        n, many = left.pop(), 1
        at = exchange[n]
        while at != n:
            left.discard(at)
            at, many = exchange[at], many + 1
        found.append(many)
    return tuple(sorted(found))


def some_steps(q, draw):
    found = [samples.step(q, draw, samples.some_degrees(draw, many)) for many in (0, 0, 1, 1, 2, 3, 6, 12)]
    return found + [NOTHING, samples.resting_step(q, draw, 2), samples.bent_step(q, draw)]


class Exchanges(unittest.TestCase):
    def test_any_value(self):
        for q in FIELDS:
            draw = samples.drawer(q, "any value")
            right = drawn(q, draw)
            same = tuple(range(q * q))
            self.assertIs(exchanges.is_exchange(q, right), True)
            self.assertIs(exchanges.is_exchange(q, same), True)
            things = samples.odd_values() + samples.spoilt(right, draw, 100) + [list(right), right + (q * q,), right[1:]]
            things += [(True, False, *range(2, q * q)), (*same[:-1], 0), (*same[1:], q * q), (-1, *same[1:]), (), same * 2]
            things += [(str(n) for n in same), (*same[:-1], None), (*same[:-1], (1,)), (*same[:-1], [1]), (*same[:-1], "3")]
            things += [(*same[:-1], 10 ** 39), dict.fromkeys(same), (same,), tuple((n,) for n in same)]
            for thing in things:
                plainly = type(thing) is tuple and all(type(n) is int for n in thing) and sorted(thing) == list(same)
                self.assertIs(exchanges.is_exchange(q, thing), plainly)

    def test_refused(self):
        for q in FIELDS:
            draw = samples.drawer(q, "refused")
            same = tuple(range(q * q))
            for bad in samples.odd_values() + samples.spoilt(same, draw, 10) + [(True, 0, *same[2:]), list(same), same[1:]]:
                if exchanges.is_exchange(q, bad):
                    continue
                for ask in ASKED:
                    with self.assertRaises(BadExchange) as caught:
                        ask(q, bad)
                    self.assertIs(caught.exception.thing, bad)

    def test_exchanges_of_another_field(self):
        for q in FIELDS:
            for other in FIELDS:
                for ask in (exchanges.is_even, exchanges.can_come, exchanges.round_lengths):
                    if q != other:
                        with self.assertRaises(BadExchange):
                            ask(q, tuple(range(other * other)))


class OfSteps(unittest.TestCase):
    def test_points_moved_by_the_row(self):
        for q in FIELDS:
            draw = samples.drawer(q, "moved")
            for step in some_steps(q, draw):
                found = exchanges.exchange_of(q, step)
                self.assertEqual([found, type(found)], [moved_by_row(q, steps.row_of(q, step)), tuple])
                self.assertTrue(exchanges.is_exchange(q, found))
                for number in (0, q, q * q - 1):
                    self.assertEqual(divmod(found[number], q), steps.point_after(q, step, divmod(number, q)))

    def test_products_and_undoings(self):
        for q in FIELDS:
            draw = samples.drawer(q, "products")
            few = some_steps(q, draw)[1:7]
            for one, other in zip(few, few[1:]):
                both = exchanges.exchange_of(q, steps.product(q, one, other))
                self.assertEqual(both, then(exchanges.exchange_of(q, one), exchanges.exchange_of(q, other)))
                back = exchanges.exchange_of(q, steps.undoing(q, one))
                self.assertEqual(back, undone(exchanges.exchange_of(q, one)))
            self.assertEqual(exchanges.exchange_of(q, NOTHING), tuple(range(q * q)))

    def test_unlike_steps_with_one_exchange(self):
        step = (-1, (BEND,), (), (1, 1, 0, 0, 1, 0))
        self.assertEqual(exchanges.exchange_of(2, step), (0, 1, 2, 3))
        for q, bend, linear in ((3, (0, 0, 0, 1), 2), (4, (0, 0, 0, 0, 1), 1), (5, (0, 0, 0, 0, 0, 1), 4)):
            step = (-1, (bend,), (), (1, linear, 0, 0, 1, 0))
            self.assertEqual(exchanges.exchange_of(q, step), tuple(range(q * q)))

    def test_all_come_from_steps_that_can(self):
        for q in FIELDS:
            draw = samples.drawer(q, "come")
            for step in some_steps(q, draw):
                found = exchanges.exchange_of(q, step)
                self.assertIs(exchanges.can_come(q, found), True)
                if q in (4, 8, 16):
                    self.assertIs(exchanges.is_even(q, found), True)


class Even(unittest.TestCase):
    def test_wrong_orders(self):
        for q in FIELDS:
            draw = samples.drawer(q, "even")
            for exchange in [drawn(q, draw) for _ in range(4)] + [few_moved(q, draw, many) for many in (2, 3, 4)]:
                even = wrong_orders(exchange) % 2 == 0
                self.assertIs(exchanges.is_even(q, exchange), even)
                self.assertIs(exchanges.can_come(q, exchange), even or q not in (4, 8, 16))
                swapped = then(exchange, few_moved(q, draw, 2))
                self.assertIs(exchanges.is_even(q, swapped), not even)
                self.assertIs(exchanges.can_come(q, swapped), not even or q not in (4, 8, 16))

    def test_all_over_two(self):
        from itertools import permutations
        for exchange in permutations(range(4)):
            self.assertIs(exchanges.is_even(2, exchange), wrong_orders(exchange) % 2 == 0)
            self.assertIs(exchanges.can_come(2, exchange), True)


class Rows(unittest.TestCase):
    def check_row(self, q, exchange):
        row = exchanges.row_for(q, exchange)
        if q == 4 and wrong_orders(exchange) % 2:
            self.assertIsNone(row)
            return
        self.assertTrue(reference.is_row(q, row))
        self.assertEqual(moved_by_row(q, row), exchange)
        self.assertEqual(exchanges.exchange_of(q, steps.step_of_row(q, row)), exchange)
        for point in points(q)[:: max(1, q - 2)]:
            self.assertEqual(pairs.point_by_row(q, row, point), divmod(exchange[point[0] * q + point[1]], q))

    def test_all_over_two(self):
        from itertools import permutations
        for exchange in permutations(range(4)):
            self.check_row(2, exchange)

    def test_drawn_ones(self):
        for q in (3, 4, 5, 7):
            draw = samples.drawer(q, "rows")
            for _ in range(25 if q < 6 else 8):
                self.check_row(q, drawn(q, draw))

    def test_few_points_moved(self):
        for q in (3, 4, 5, 7):
            draw = samples.drawer(q, "few")
            for many in (1, 2, 3, 4, 5, 6):
                for _ in range(6):
                    self.check_row(q, few_moved(q, draw, many))
            for at in range(q * q - 2):
                exchange = list(range(q * q))
                exchange[at:at + 3] = exchange[at + 1], exchange[at + 2], exchange[at]
                self.check_row(q, tuple(exchange))

    def test_points_on_a_line(self):
        for q in (3, 4, 5, 7):
            for x, y in ((1, 0), (0, 1), (1, 1), (1, q - 1)):
                found, number = list(range(q * q)), [0]
                for a in (1, 2):
                    number.append(reference.times(q, a, x) * q + reference.times(q, a, y))
                found[number[0]], found[number[1]], found[number[2]] = number[1], number[2], number[0]
                self.check_row(q, tuple(found))
                self.check_row(q, undone(tuple(found)))

    def test_all_points_moved(self):
        for q in (2, 3, 4, 5, 7):
            many = q * q
            self.check_row(q, tuple((n + 1) % many for n in range(many)))
            self.check_row(q, tuple(reversed(range(many))))
            self.check_row(q, tuple((n + 2) % many for n in range(many)))
            self.check_row(q, tuple(n ^ 1 if n ^ 1 < many else n for n in range(many)))
            self.check_row(q, tuple(range(many)))

    def test_exchanges_of_steps(self):
        for q in (2, 3, 4, 5, 7):
            draw = samples.drawer(q, "of steps")
            for step in some_steps(q, draw):
                self.check_row(q, exchanges.exchange_of(q, step))

    def test_odd_ones_over_four(self):
        draw = samples.drawer("odd over four")
        told = [exchanges.row_for(4, few_moved(4, draw, many)) is None for many in (2, 3, 4, 5, 6, 7)]
        self.assertEqual(told, [True, False, True, False, True, False])


class Rounds(unittest.TestCase):
    def test_lengths(self):
        for q in FIELDS:
            draw = samples.drawer(q, "rounds")
            for exchange in [drawn(q, draw) for _ in range(4)] + [few_moved(q, draw, 3), tuple(range(q * q))]:
                found = exchanges.round_lengths(q, exchange)
                self.assertEqual([found, type(found), sum(found)], [lengths(exchange), tuple, q * q])

    def test_point_orders(self):
        for q in FIELDS:
            draw = samples.drawer(q, "point order")
            for step in some_steps(q, draw):
                exchange = exchanges.exchange_of(q, step)
                found = exchanges.point_order(q, step)
                right = 1
                for length in lengths(exchange):
                    right = plain.least_multiple(right, length)
                self.assertEqual([found, type(found)], [right, int])
                if right < 3000:
                    moved, n = exchange, 1
                    while moved != tuple(range(q * q)):
                        moved, n = then(moved, exchange), n + 1
                    self.assertEqual(n, right)

    def test_orders_of_resting_steps(self):
        for q in FIELDS:
            draw = samples.drawer(q, "resting")
            for depth in (0, 1, 2, 3):
                step = samples.resting_step(q, draw, depth)
                self.assertEqual(plain.order(q, step) % exchanges.point_order(q, step), 0)
            self.assertEqual(exchanges.point_order(q, NOTHING), 1)
            self.assertEqual(exchanges.point_order(q, (-1, (), (), SWAP)), 2)

    def test_bad_steps(self):
        for q in FIELDS:
            draw = samples.drawer(q, "bad")
            for bad in samples.odd_values() + samples.spoilt(samples.step(q, draw, (2, 3)), draw, 20):
                if reference.is_step(q, bad):
                    continue
                for ask in (exchanges.exchange_of, exchanges.point_order):
                    with self.assertRaises(BadStep) as caught:
                        ask(q, bad)
                    self.assertIs(caught.exception.thing, bad)


class Between(unittest.TestCase):
    def check_pair(self, q, exchange):
        found = exchanges.pair_between(q, exchange)
        self.assertTrue(reference.is_pair(q, found))
        self.assertTrue(all(i < q and j < q for part in found for i, j, _ in part))
        for x, y in points(q):
            told = tuple(reference.poly_value(q, reference.as_dict(part), x, y) for part in found)
            self.assertEqual(told, divmod(exchange[x * q + y], q))

    def test_points_moved(self):
        for q in (2, 3, 4, 5):
            draw = samples.drawer(q, "between")
            for _ in range(12):
                self.check_pair(q, drawn(q, draw))
            for many in (1, 2, 3, 5) if q > 2 else (1, 2, 3):
                self.check_pair(q, few_moved(q, draw, many))
            self.assertEqual(exchanges.pair_between(q, tuple(range(q * q))), (((1, 0, 1),), ((0, 1, 1),)))

    def test_pairs_of_steps_with_lesser_exponents(self):
        """x^q is x at all points: the pair of a step with its exponents made less is the pair in between."""
        for q in (2, 3, 4, 5):
            draw = samples.drawer(q, "lesser")
            for degrees in ((), (2,), (3,), (6,), (2, 3), (3, 2, 2)):
                step = samples.step(q, draw, degrees)
                right = tuple(self.lessened(q, part) for part in steps.pair_of(q, step))
                self.assertEqual(exchanges.pair_between(q, exchanges.exchange_of(q, step)), right)

    def lessened(self, q, poly):
        found = {}
        for i, j, c in poly:
            at = tuple(k if k == 0 else (k - 1) % (q - 1) + 1 for k in (i, j))
            found[at] = reference.plus(q, found.get(at, 0), c)
        return reference.as_poly(found)

    def test_often_not_undoable(self):
        for q in (3, 4, 5):
            found = exchanges.pair_between(q, (1, 0) + tuple(range(2, q * q)))
            self.assertIs(peeling.is_undoable(q, found), False)


if __name__ == "__main__":
    unittest.main()
