"""Part 12: larger fields, lifted numbers and steps, points that stay still or are moved again and again."""

import unittest

from bentplane import kinds, larger, steps
from bentplane.errors import BadStep
from bentplane.exchanges import point_order
from tests import plain, reference, samples
from tests.plain import NOTHING, SAME, SWAP
from tests.reference import FIELDS

BEND = (0, 0, 1)
ABOVE = ((2, 4), (2, 8), (2, 16), (4, 16), (3, 9))


def lifted_number(q, r, n):
    """[12.1]: digits of n, with the lifted w in the place of w."""
    if (q, r) != (4, 16):
        return n
    root = reference.plus(16, 2, reference.times(16, 2, 2))
    return reference.plus(16, n % 2, reference.times(16, n // 2, root))


def lifted(q, r, step):
    start, bends, turns, last = step

    def up(numbers):
        return tuple(lifted_number(q, r, n) for n in numbers)

    return (start if start < 0 else lifted_number(q, r, start), tuple(up(bend) for bend in bends), up(turns), up(last))


def some_steps(q, draw, most=4):
    found = [samples.step(q, draw, samples.some_degrees(draw, many)) for many in range(most + 1)]
    return found + [NOTHING, samples.resting_step(q, draw, 1), samples.core(q, draw, (2, 3))]


def points(q):
    return [(x, y) for x in range(q) for y in range(q)]


def moved_again(q, step, point, n):
    for _ in range(abs(n)):
        point = steps.point_after(q, step if n > 0 else steps.undoing(q, step), point)
    return point


class Lifting(unittest.TestCase):
    def test_above(self):
        for q in FIELDS:
            for r in FIELDS:
                self.assertIs(larger.is_above(q, r), (q, r) in ABOVE)

    def test_numbers(self):
        for q, r in ABOVE:
            for a in range(q):
                self.assertEqual(larger.number_lifted(q, r, a), lifted_number(q, r, a))
                for b in range(q):
                    up = [larger.number_lifted(q, r, n) for n in (a, b)]
                    both = larger.number_lifted(q, r, reference.plus(q, a, b))
                    self.assertEqual(both, reference.plus(r, *up))
                    both = larger.number_lifted(q, r, reference.times(q, a, b))
                    self.assertEqual(both, reference.times(r, *up))
        self.assertEqual([larger.number_lifted(4, 16, n) for n in range(4)], [0, 1, 6, 7])
        self.assertEqual([larger.number_lifted(3, 9, n) for n in range(3)], [0, 1, 2])

    def test_four_between_two_and_sixteen(self):
        for n in (0, 1):
            self.assertEqual(larger.number_lifted(4, 16, larger.number_lifted(2, 4, n)), larger.number_lifted(2, 16, n))
        draw = samples.drawer("between")
        for step in some_steps(2, draw, 8):
            twice = larger.step_lifted(4, 16, larger.step_lifted(2, 4, step))
            self.assertEqual(twice, larger.step_lifted(2, 16, step))

    def test_steps_number_by_number(self):
        for q, r in ABOVE:
            draw = samples.drawer(q, r, "steps")
            for step in some_steps(q, draw, 12):
                found = larger.step_lifted(q, r, step)
                self.assertEqual(found, lifted(q, r, step))
                self.assertTrue(reference.is_step(r, found))
                self.assertEqual(steps.degrees_of(r, found), steps.degrees_of(q, step))
                right = lifted_number(q, r, steps.determinant_of(q, step))
                self.assertEqual(steps.determinant_of(r, found), right)
                self.assertEqual(kinds.walk(r, found), kinds.walk(q, step))
                if kinds.is_resting(q, step):
                    self.assertEqual(kinds.order(r, found), kinds.order(q, step))

    def test_products_and_undoings(self):
        for q, r in ABOVE:
            draw = samples.drawer(q, r, "products")
            few = some_steps(q, draw)
            for one, other in zip(few, few[1:]):
                up = [larger.step_lifted(q, r, step) for step in (one, other)]
                self.assertEqual(larger.step_lifted(q, r, steps.product(q, one, other)), steps.product(r, *up))
                self.assertEqual(larger.step_lifted(q, r, steps.undoing(q, one)), steps.undoing(r, up[0]))
            self.assertEqual(larger.step_lifted(q, r, NOTHING), NOTHING)

    def test_lifted_points(self):
        for q, r in ABOVE:
            draw = samples.drawer(q, r, "points")
            for step in some_steps(q, draw):
                up = larger.step_lifted(q, r, step)
                for point in points(q):
                    there = tuple(lifted_number(q, r, n) for n in steps.point_after(q, step, point))
                    start = tuple(lifted_number(q, r, n) for n in point)
                    self.assertEqual(steps.point_after(r, up, start), there)


class Points(unittest.TestCase):
    def test_still_points(self):
        for q in FIELDS:
            draw = samples.drawer(q, "still")
            for step in some_steps(q, draw) + [samples.bent_step(q, draw), samples.straight_step(q, draw)]:
                right = tuple(point for point in points(q) if steps.point_after(q, step, point) == point)
                self.assertEqual(larger.still_points(q, step), right)
            self.assertEqual(larger.still_points(q, NOTHING), tuple(points(q)))
            self.assertEqual(larger.still_points(q, (-1, (), (), (1, 0, 1, 0, 1, 0))), ())
            self.assertEqual(larger.still_points(q, (-1, (), (), SWAP)), tuple((x, x) for x in range(q)))

    def test_few_repeats(self):
        for q in FIELDS:
            draw = samples.drawer(q, "few")
            for step in some_steps(q, draw, 2):
                point = (draw.randrange(q), draw.randrange(q))
                for n in (-3, -2, -1, 0, 1, 2, 3, 5):
                    found = larger.point_after_repeat(q, step, point, n)
                    self.assertEqual([found, type(found)], [moved_again(q, step, point, n), tuple])
                for n in (-2, -1, 0, 1, 2, 3):
                    right = sum(1 for at in points(q) if moved_again(q, step, at, n) == at) if q < 9 else None
                    if right is not None:
                        self.assertEqual(larger.many_still(q, step, n), right)

    def test_far_repeats(self):
        """After as many repeats as the point's round is long all begins again."""
        for q in FIELDS:
            draw = samples.drawer(q, "far")
            for step in some_steps(q, draw, 2):
                rounds = {}
                for point in points(q):
                    along = [point]
                    while (there := steps.point_after(q, step, along[-1])) != point:
                        along.append(there)
                    rounds[point] = along
                for n in (10 ** 29 + 7, -(10 ** 30) + 1, 10 ** 12, 720720, -720720, 12 * 10 ** 20, 0):
                    for point in draw.sample(points(q), 3):
                        along = rounds[point]
                        self.assertEqual(larger.point_after_repeat(q, step, point, n), along[n % len(along)])
                    right = sum(1 for along in rounds.values() if n % len(along) == 0)
                    self.assertEqual(larger.many_still(q, step, n), right)

    def test_all_stay_still(self):
        for q in FIELDS:
            step = samples.step(q, samples.drawer(q, "all"), (2, 3))
            self.assertEqual(larger.many_still(q, step, 0), q * q)
            self.assertEqual(larger.many_still(q, NOTHING, 10 ** 29), q * q)
            self.assertEqual(larger.point_after_repeat(q, step, (q - 1, 0), 0), (q - 1, 0))

    def test_many_still_of_one_repeat(self):
        for q in FIELDS:
            for step in some_steps(q, samples.drawer(q, "one")):
                self.assertEqual(larger.many_still(q, step, 1), len(larger.still_points(q, step)))
                self.assertEqual(larger.many_still(q, step, -1), len(larger.still_points(q, step)))


class Parted(unittest.TestCase):
    def right(self, q, one, other):
        for r in [q] + [r for part, r in ABOVE if part == q]:
            first, second = (step if r == q else lifted(q, r, step) for step in (one, other))
            for point in points(r):
                if steps.point_after(r, first, point) != steps.point_after(r, second, point):
                    return (r, point)
        return None

    def test_drawn_steps(self):
        for q in FIELDS:
            draw = samples.drawer(q, "parted")
            few = some_steps(q, draw, 3) + [samples.straight_step(q, draw)]
            for one, other in zip(few, few[1:]):
                self.assertEqual(larger.parted_point(q, one, other), self.right(q, one, other))
                self.assertIsNone(larger.parted_point(q, one, one))
                nearly = steps.product(q, one, (-1, (samples.bend(q, draw),), (), SAME))
                self.assertEqual(larger.parted_point(q, one, nearly), self.right(q, one, nearly))

    def test_alike_over_a_field_but_not_over_larger_ones(self):
        """x + y^k - y moves no point of q if k is q; over 2, 3 and 4 there are larger fields, over 5 none."""
        for q, right in ((2, (4, (0, 2))), (3, (9, (0, 3))), (4, (16, (0, 2))), (5, None)):
            step = (-1, ((0,) * q + (1,),), (), (1, reference.opposite(q, 1), 0, 0, 1, 0))
            self.assertEqual(larger.parted_point(q, step, NOTHING), right)
            self.assertEqual(self.right(q, step, NOTHING), right)

    def test_first_parted_in_the_middle_field(self):
        """Over 2: y^4 - y is zero at all points of 4, but not of 8."""
        step = (-1, ((0, 0, 0, 0, 1),), (), (1, 1, 0, 0, 1, 0))
        self.assertEqual(larger.parted_point(2, step, NOTHING), (8, (0, 2)))
        self.assertEqual(larger.parted_point(4, step, NOTHING), (16, (0, 2)))

    def commutator(self, q, one, other):
        back = steps.product(q, steps.undoing(q, one), steps.undoing(q, other))
        return steps.product(q, steps.product(q, one, other), back)

    def shears(self, q, f, g):
        """(x + f(y), y), and (x, y + g(x))."""
        swap = ("straight", SWAP)
        rows = [(("bend", (0, 0, *h[2:])), ("straight", (1, h[1], h[0], 0, 1, 0))) for h in (f, g)]
        return steps.step_of_row(q, rows[0]), steps.step_of_row(q, (swap, *rows[1], swap))

    def test_alike_at_all_points_of_all_these_fields(self):
        """Shears that commute at all points of a field, where the values of each one's polynomial shift the other nowhere."""
        four = self.commutator(4, *self.shears(4, (0, 1, 0, 0, 1), (0, 1, 0, 0, 1)))
        nine = self.commutator(3, *self.shears(3, (0, 2, 0, 1), (0, 1, 0, 1)))
        # Over 2 one commutator moves no point of 2, 4 and 16, and another one none of 2 and 8.
        one = self.commutator(2, *self.shears(2, (0, 1, 0, 0, 1), (0, 1, 0, 0, 1)))
        other = self.commutator(2, *self.shears(2, (0, 1, 1, 0, 1), (0, 1, 1)))
        self.assertEqual(larger.parted_point(2, one, NOTHING)[0], 8)
        self.assertIn(larger.parted_point(2, other, NOTHING)[0], (4, 16))
        for q, step in ((4, four), (3, nine), (2, self.commutator(2, one, other)),
                        (5, (-1, ((0, 0, 0, 0, 0, 1),), (), (1, 4, 0, 0, 1, 0)))):
            self.assertNotEqual(step, NOTHING)
            self.assertIsNone(larger.parted_point(q, step, NOTHING))
            self.assertIsNone(self.right(q, step, NOTHING))
            more = samples.step(q, samples.drawer(q, "more"), (2,))
            self.assertIsNone(larger.parted_point(q, steps.product(q, more, step), more))

    def test_repeats_that_move_no_point(self):
        """Growing steps whose point order is low: over 7, 8, 11 and more there is no other field to part them."""
        many = 0
        for q in (5, 7, 8, 9, 11, 13):
            draw = samples.drawer(q, "repeats")
            for _ in range(400):
                step = samples.core(q, draw, (2,))
                n = point_order(q, step)
                if n <= 12:
                    far = steps.repeat(q, step, n)
                    self.assertIsNone(larger.parted_point(q, far, NOTHING))
                    self.assertIsNone(larger.parted_point(q, steps.product(q, far, step), step))
                    many += 1
                    break
        self.assertGreater(many, 0)

    def test_bad_steps(self):
        for q in FIELDS:
            draw = samples.drawer(q, "bad")
            good = samples.step(q, draw, (2, 3))
            r = next((r for part, r in ABOVE if part == q), 16)
            for bad in samples.odd_values() + samples.spoilt(good, draw, 20):
                if reference.is_step(q, bad):
                    continue
                calls = (
                    lambda: larger.still_points(q, bad), lambda: larger.point_after_repeat(q, bad, (0, 0), 3),
                    lambda: larger.many_still(q, bad, 3), lambda: larger.parted_point(q, bad, None),
                    lambda: larger.parted_point(q, good, bad), lambda: larger.step_lifted(q, r, bad),
                )
                for call in calls:
                    with self.assertRaises(BadStep) as caught:
                        call()
                    self.assertIs(caught.exception.thing, bad)


if __name__ == "__main__":
    unittest.main()
