"""Part 6, [6.4]: degrees of all repeats, and far repeats of steps that rest."""

import unittest

from bentplane import kinds, repeats, steps
from bentplane.errors import BadStep, NotResting
from tests import plain, reference, samples
from tests.plain import NOTHING, SAME, SWAP
from tests.reference import FIELDS
from tests.test_kinds import any_steps, growing_steps, resting_steps, turned

FAR = (10 ** 20, -10 ** 20, 10 ** 30 - 1, -(10 ** 30 - 1), 123456789012345678901234567890, -98765432109876543210, 60, -77)


def degree_exponents(q, step):
    return plain.exponents(steps.degrees_of(q, step))


def few_bends(found):
    return [step for step in found if len(step[1]) <= 5]


class Growth(unittest.TestCase):
    def test_known_short_forms(self):
        for q in FIELDS:
            draw = samples.drawer(q, "growth")
            for degrees in ((2,), (3,), (4,), (5,), (6,), (2, 3), (6, 5, 4), (6,) * 6, samples.some_degrees(draw, 12)):
                core = samples.core(q, draw, degrees)
                self.assertEqual(repeats.growth(q, core), plain.exponents(degrees))
                if len(degrees) < 4:
                    self.assertEqual(repeats.growth(q, turned(q, draw, core, 3)), plain.exponents(degrees))

    def test_resting_steps(self):
        for q in FIELDS:
            for step in resting_steps(q, samples.drawer(q, "no growth")):
                self.assertEqual(repeats.growth(q, step), (0, 0, 0))

    def test_second_repeats(self):
        """The degree of the second repeat is that of the first one times r."""
        for q in FIELDS:
            draw = samples.drawer(q, "second")
            for step in any_steps(q, draw, 12) + any_steps(q, draw, 12):
                if plain.walk(q, step) == 0:
                    continue
                once, twice = degree_exponents(q, step), degree_exponents(q, steps.product(q, step, step))
                self.assertEqual(repeats.growth(q, step), tuple(b - a for a, b in zip(once, twice)))


class Degrees(unittest.TestCase):
    def test_small_repeats(self):
        for q in FIELDS:
            draw = samples.drawer(q, "small")
            few = any_steps(q, draw, 5) + resting_steps(q, draw)[:12] + [step for step, _ in growing_steps(q, draw)]
            for step in few_bends(few):
                for n in range(-7, 8):
                    right = degree_exponents(q, steps.repeat(q, step, n))
                    self.assertEqual(repeats.repeat_degree(q, step, n), right)

    def test_twelve_bends(self):
        for q in FIELDS:
            draw = samples.drawer(q, "twelve")
            few = [samples.step(q, draw, samples.some_degrees(draw, 12)), resting_steps(q, draw)[-1]]
            for step in few + [step for step, _ in growing_steps(q, draw)]:
                for n in range(-3, 4):
                    right = degree_exponents(q, steps.repeat(q, step, n))
                    self.assertEqual(repeats.repeat_degree(q, step, n), right)

    def test_far_repeats_of_growing_steps(self):
        for q in FIELDS:
            for step, _ in growing_steps(q, samples.drawer(q, "far")):
                once, more = degree_exponents(q, step), repeats.growth(q, step)
                for n in FAR:
                    right = tuple(a + (abs(n) - 1) * b for a, b in zip(once, more))
                    self.assertEqual(repeats.repeat_degree(q, step, n), right)
                self.assertEqual(repeats.repeat_degree(q, step, 0), (0, 0, 0))
                self.assertEqual(repeats.repeat_degree(q, step, 1), once)
                self.assertEqual(repeats.repeat_degree(q, step, -1), once)

    def test_far_repeats_of_resting_steps(self):
        for q in FIELDS:
            for step in resting_steps(q, samples.drawer(q, "far resting"))[::2]:
                order = kinds.order(q, step)
                for n in FAR[:4] + (0, order, -order, order + 1, order - 1, 10 ** 25 * order):
                    right = degree_exponents(q, self.plain_repeat(q, step, n % order))
                    self.assertEqual(repeats.repeat_degree(q, step, n), right)

    def plain_repeat(self, q, step, n):
        found = NOTHING
        for _ in range(n):
            found = steps.product(q, found, step)
        return found


class FarRepeats(unittest.TestCase):
    def test_small_repeats(self):
        for q in FIELDS:
            for step in few_bends(resting_steps(q, samples.drawer(q, "far repeat"))):
                for n in range(-7, 8):
                    self.assertEqual(repeats.far_repeat(q, step, n), steps.repeat(q, step, n))

    def test_great_numbers(self):
        for q in FIELDS:
            for step in resting_steps(q, samples.drawer(q, "great")):
                order = kinds.order(q, step)
                rest = step
                for n in range(1, min(order, 20) + 1):
                    for far in (n + order * 10 ** 27, n - order * 10 ** 27, n - order):
                        self.assertEqual(repeats.far_repeat(q, step, far), rest)
                    rest = steps.product(q, rest, step)
                self.assertEqual(repeats.far_repeat(q, step, order * 10 ** 27), NOTHING)
                self.assertEqual(repeats.far_repeat(q, step, -1), steps.undoing(q, step))
                self.assertEqual(repeats.far_repeat(q, step, order * 10 ** 27 - 1), steps.undoing(q, step))

    def test_sums_of_numbers(self):
        for q in FIELDS:
            for step in resting_steps(q, samples.drawer(q, "sums"))[:8]:
                for n, m in zip(FAR, FAR[3:]):
                    both = steps.product(q, repeats.far_repeat(q, step, n), repeats.far_repeat(q, step, m))
                    self.assertEqual(repeats.far_repeat(q, step, n + m), both)

    def test_far_repeats_rest(self):
        for q in FIELDS:
            for step in resting_steps(q, samples.drawer(q, "still"))[:8]:
                self.assertIs(kinds.is_resting(q, repeats.far_repeat(q, step, FAR[0])), True)


class Refused(unittest.TestCase):
    def test_growing_steps(self):
        for q in FIELDS:
            for step, _ in growing_steps(q, samples.drawer(q, "refused")):
                for n in (0, 1, -1, FAR[0]):
                    with self.assertRaises(NotResting) as caught:
                        repeats.far_repeat(q, step, n)
                    self.assertIs(caught.exception.thing, step)

    def test_what_is_no_step(self):
        for q in FIELDS:
            draw = samples.drawer(q, "bad steps")
            good = (-1, ((0, 0, 1), (0, 0, 1)), (0,), SWAP)
            bad_ones = samples.odd_values() + samples.spoilt(good, draw, 40) + [(0, (), (), SAME), (-1, (), (), [*SAME])]
            for bad in bad_ones:
                if reference.is_step(q, bad):
                    continue
                calls = (
                    lambda: repeats.growth(q, bad), lambda: repeats.repeat_degree(q, bad, 0),
                    lambda: repeats.repeat_degree(q, bad, FAR[0]), lambda: repeats.far_repeat(q, bad, 1),
                )
                for call in calls:
                    with self.assertRaises(BadStep) as caught:
                        call()
                    self.assertIs(caught.exception.thing, bad)


if __name__ == "__main__":
    unittest.main()
