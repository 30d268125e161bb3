"""Part 5: how many steps there are, and the number of each of them."""

import itertools
import unittest
from collections import Counter
from functools import lru_cache

from bentplane import counting, steps
from bentplane.errors import BadStep
from tests import reference, samples
from tests.reference import FIELDS

SMALL = (
    (2, ()), (2, (2,)), (2, (3,)), (2, (6,)), (2, (2, 2)), (2, (2, 3)), (2, (3, 2)), (2, (2, 2, 2)), (2, (3, 2, 2)),
    (3, ()), (3, (2,)), (3, (3,)), (4, ()), (4, (2,)), (5, ()),
)


@lru_cache(maxsize=None)
def straight_maps(q):
    """All straight maps, ascending."""
    found = []
    for a, b, d, e in itertools.product(range(q), repeat=4):
        if reference.times(q, a, e) != reference.times(q, b, d):
            found += [(a, b, c, d, e, f) for c in range(q) for f in range(q)]
    return sorted(found)


def bends(q, degree):
    return [(0, 0, *part, last) for part in itertools.product(range(q), repeat=degree - 2) for last in range(1, q)]


@lru_cache(maxsize=None)
def listing(q, degrees):
    """All steps with told degrees, as Python sorts them."""
    if degrees == ():
        return [(-1, (), (), last) for last in straight_maps(q)]
    rows = itertools.product(*[bends(q, degree) for degree in degrees])
    turns = list(itertools.product(range(q), repeat=len(degrees) - 1))
    return sorted(
        (start, row, turn, last) for row in rows for turn in turns for start in range(-1, q) for last in straight_maps(q)
    )


@lru_cache(maxsize=None)
def tuples_of(degree):
    """All tuples of degrees from 2 to 6 with a told product."""
    if degree == 1:
        return [()]
    return [(first, *rest) for first in range(2, 7) if degree % first == 0 for rest in tuples_of(degree // first)]


def plain_many(q, degrees):
    """The number of steps with told degrees, by the words of [5.1]."""
    found = (q * q - 1) * (q * q - q) * q * q
    if len(degrees) > 0:
        found *= (q + 1) * q ** (len(degrees) - 1)
    for d in degrees:
        found *= (q - 1) * q ** (d - 2)
    return found


def following(q, step):
    """The next step with the same degrees as Python sorts them: the last number that can grow does."""
    start, bends_, turns, last = step
    row = [start] + [c for bend in bends_ for c in bend[2:]] + list(turns)
    least = [-1] + [c for bend in bends_ for c in (0,) * (len(bend) - 3) + (1,)] + [0] * len(turns)
    while True:
        last = counted_up(q, last, (0,) * 6)
        if last is None:
            break
        if reference.is_straight(q, last):
            return (start, bends_, turns, last)
    row = counted_up(q, row, least)
    found, at = [], 1
    for bend in bends_:
        found.append((0, 0, *row[at:at + len(bend) - 2]))
        at += len(bend) - 2
    return (row[0], tuple(found), tuple(row[at:]), (0, 1, 0, 1, 0, 0))


def counted_up(q, numbers, least):
    """The next numbers, each from the least one on and below q; None behind the last ones."""
    for at in range(len(numbers) - 1, -1, -1):
        if numbers[at] + 1 < q:
            return (*numbers[:at], numbers[at] + 1, *least[at + 1:])
    return None


def greatest(q, degrees):
    """The last one of all steps with told degrees."""
    top = tuple((0, 0) + (q - 1,) * (degree - 1) for degree in degrees)
    turns = (q - 1,) * max(len(degrees) - 1, 0)
    last = (q - 1, q - 1, q - 1, q - 1, q - 2, q - 1)
    return (q - 1 if degrees else -1, top, turns, last)


def least(q, degrees):
    """The first one of all steps with told degrees."""
    low = tuple((0,) * degree + (1,) for degree in degrees)
    return (-1, low, (0,) * max(len(degrees) - 1, 0), (0, 1, 0, 1, 0, 0))


class Numbers(unittest.TestCase):
    def test_straight_maps(self):
        for q in FIELDS:
            self.assertEqual(counting.many_straight(q), plain_many(q, ()))
            if q < 8:
                self.assertEqual(counting.many_straight(q), len(straight_maps(q)))
        self.assertEqual(counting.many_straight(16), 15667200)

    def test_listings(self):
        for q, degrees in SMALL:
            self.assertEqual(counting.many_steps(q, degrees), len(listing(q, degrees)))

    def test_0_to_12_degrees_in_any_order(self):
        for q in FIELDS:
            draw = samples.drawer(q, "many steps")
            for many in list(range(13)) + [12]:
                degrees = samples.some_degrees(draw, many)
                found = counting.many_steps(q, degrees)
                self.assertEqual(found, plain_many(q, degrees))
                self.assertEqual(counting.many_steps(q, tuple(sorted(degrees))), found)
                self.assertEqual(counting.many_steps(q, degrees[::-1]), found)
            for degree in range(2, 7):
                self.assertEqual(counting.many_steps(q, (degree,) * 12), plain_many(q, (degree,) * 12))

    def test_each_determinant(self):
        for q in FIELDS:
            draw = samples.drawer(q, "many with")
            for many in (0, 1, 2, 5, 12):
                degrees = samples.some_degrees(draw, many)
                for number in range(1, q):
                    found = counting.many_with(q, degrees, number)
                    self.assertEqual(found * (q - 1), plain_many(q, degrees))

    def test_each_determinant_in_listings(self):
        for q, degrees in SMALL:
            found = Counter(steps.determinant_of(q, step) for step in listing(q, degrees))
            self.assertEqual(found, {number: counting.many_with(q, degrees, number) for number in range(1, q)})

    def test_determinants_of_neighbours(self):
        """Behind each choice of bends and turns, just as many last maps for each determinant."""
        for q in (3, 4, 5):
            draw = samples.drawer(q, "choices")
            for many in (1, 2, 3):
                start, row, turns, _ = samples.step(q, draw, samples.some_degrees(draw, many))
                found = Counter(steps.determinant_of(q, (start, row, turns, last)) for last in straight_maps(q))
                self.assertEqual(set(found.values()), {len(straight_maps(q)) // (q - 1)})
                self.assertEqual(sorted(found), list(range(1, q)))

    def test_degrees_of_pairs(self):
        for q in FIELDS:
            for degree in list(range(1, 1001)) if q in (2, 9, 16) else [*range(1, 50), 64, 343, 720, 997, 1000]:
                right = sum(plain_many(q, degrees) for degrees in tuples_of(degree))
                self.assertEqual(counting.many_of_degree(q, degree), right)
            self.assertEqual(counting.many_of_degree(q, 1), plain_many(q, ()))
            self.assertEqual(counting.many_of_degree(q, 7), 0)
            self.assertGreater(counting.many_of_degree(q, 1000), 0)

    def test_degree_4_over_2(self):
        pairs = {steps.pair_of(2, step) for degrees in ((4,), (2, 2)) for step in listing(2, degrees)}
        self.assertEqual(counting.many_of_degree(2, 4), len(pairs))


class Order(unittest.TestCase):
    def test_whole_listings(self):
        for q, degrees in SMALL:
            row = listing(q, degrees)
            for at in range(0, len(row), 1 if len(row) < 5000 else 7):
                self.assertEqual(counting.step_at(q, degrees, at), row[at])
                self.assertEqual(counting.step_number(q, row[at]), at)

    def runs(self, q, degrees):
        """Numbers at which runs of neighbours begin."""
        many, whole = plain_many(q, ()), plain_many(q, degrees)
        found = [0, max(whole - 12, 0), many - 6]
        if whole > many:
            draw = samples.drawer(q, degrees, "runs")
            found += [whole - many - 6] + [draw.randrange(1, whole // many) * many - 6 for _ in range(3)]
            found += [draw.randrange(whole - 12) for _ in range(2)]
        return found

    def check_run(self, q, degrees, first):
        whole = plain_many(q, degrees)
        step = counting.step_at(q, degrees, first)
        for number in range(first, min(first + 12, whole)):
            self.assertTrue(reference.is_step(q, step))
            self.assertEqual(tuple(len(bend) - 1 for bend in step[1]), degrees)
            self.assertEqual(counting.step_number(q, step), number)
            if number + 1 < whole:
                after = counting.step_at(q, degrees, number + 1)
                self.assertLess(step, after)
                self.assertEqual(after, following(q, step))
                step = after

    def test_runs_of_neighbours(self):
        for q in FIELDS:
            draw = samples.drawer(q, "neighbours")
            for many in (0, 1, 1, 2, 3, 7, 12):
                degrees = samples.some_degrees(draw, many)
                for first in self.runs(q, degrees):
                    self.check_run(q, degrees, first)

    def test_first_and_last(self):
        for q in FIELDS:
            draw = samples.drawer(q, "ends")
            for many in range(13):
                degrees = samples.some_degrees(draw, many)
                whole = plain_many(q, degrees)
                self.assertEqual(counting.step_at(q, degrees, 0), least(q, degrees))
                self.assertEqual(counting.step_at(q, degrees, whole - 1), greatest(q, degrees))
                self.assertEqual(counting.step_number(q, greatest(q, degrees)), whole - 1)
                self.assertEqual(counting.step_number(q, least(q, degrees)), 0)

    def test_drawn_steps(self):
        for q in FIELDS:
            draw = samples.drawer(q, "numbers")
            for many in [*range(13), 1, 2]:
                step = samples.step(q, draw, samples.some_degrees(draw, many))
                degrees = steps.degrees_of(q, step)
                number = counting.step_number(q, step)
                self.assertEqual(counting.step_at(q, degrees, number), step)
                other = samples.step(q, draw, degrees)
                self.assertEqual(counting.step_number(q, other) < number, other < step)
                self.assertIn(number, range(plain_many(q, degrees)))

    def test_all_last_maps(self):
        for q in (7, 8, 9):
            for number, last in enumerate(straight_maps(q)[::997] if q > 7 else straight_maps(q)[::89]):
                right = number * (997 if q > 7 else 89)
                self.assertEqual(counting.step_number(q, (-1, (), (), last)), right)
                self.assertEqual(counting.step_at(q, (), right), (-1, (), (), last))


class Refused(unittest.TestCase):
    def test_any_value_as_step(self):
        for q in FIELDS:
            draw = samples.drawer(q, "refused")
            things = samples.odd_values()
            for many in (0, 1, 2):
                things += samples.spoilt(samples.step(q, draw, samples.some_degrees(draw, many)), draw, 60)
            things.append(samples.step(16, draw, (6, 6))[:3] + ((16, 0, 0, 0, 1, 0),))
            for thing in things:
                if reference.is_step(q, thing):
                    self.assertIn(counting.step_number(q, thing), range(plain_many(q, steps.degrees_of(q, thing))))
                    continue
                with self.assertRaises(BadStep) as caught:
                    counting.step_number(q, thing)
                self.assertIs(caught.exception.thing, thing)


if __name__ == "__main__":
    unittest.main()
