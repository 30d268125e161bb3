"""Part 4: steps as least rows."""

import itertools
import unittest

from bentplane import pairs, steps
from bentplane.errors import BadPiece, BadStep
from tests import reference, samples
from tests.reference import FIELDS

SAME = (1, 0, 0, 0, 1, 0)
NOTHING = (-1, (), (), SAME)
BEND = (0, 0, 1)


def plain_row(step):
    """The row of a step, by the words of [4.2]."""
    start, bends, turns, last = step
    found = []
    for at, bend in enumerate(bends):
        turn = start if at == 0 else turns[at - 1]
        if turn != -1:
            found.append(("straight", (0, 1, 0, 1, turn, 0)))
        found.append(("bend", bend))
    return (*found, ("straight", last))


def undone_piece(q, piece):
    """The piece that undoes a piece; straight maps are looked for by their products."""
    sort, m = piece
    less = [reference.opposite(q, c) for c in m]
    if sort == "bend":
        return ("bend", tuple(less))
    a, b, c, d, e, f = m
    share = reference.inverse(q, reference.plus(q, reference.times(q, a, e), reference.times(q, b, less[3])))
    linear = [reference.times(q, part, share) for part in (e, less[1], less[3], a)]
    shift = [
        reference.plus(q, reference.times(q, x, less[2]), reference.times(q, y, less[5]))
        for x, y in (linear[:2], linear[2:])
    ]
    return ("straight", (linear[0], linear[1], shift[0], linear[2], linear[3], shift[1]))


def undone_row(q, row):
    return tuple(undone_piece(q, piece) for piece in reversed(row))


class IsStep(unittest.TestCase):
    def test_right_ones(self):
        for q in FIELDS:
            draw = samples.drawer(q, "right steps")
            things = [NOTHING, (-1, (BEND,), (), SAME), (q - 1, (BEND,), (), SAME), (0, (BEND, BEND), (q - 1,), SAME)]
            things += [samples.step(q, draw, samples.some_degrees(draw, many)) for many in (0, 1, 2, 5, 80)]
            for thing in things:
                self.assertIs(steps.is_step(q, thing), True)

    def test_wrong_ones(self):
        for q in FIELDS:
            wrong = (
                (0, (), (), SAME), (-2, (BEND,), (), SAME), (q, (BEND,), (), SAME), (True, (BEND,), (), SAME),
                (False, (BEND,), (), SAME), (None, (BEND,), (), SAME), ("0", (BEND,), (), SAME), (-1, (), (0,), SAME),
                (-1, (BEND,), (0,), SAME), (-1, (BEND, BEND), (), SAME), (-1, (BEND, BEND), (0, 0), SAME),
                (-1, (BEND, BEND), (q,), SAME), (-1, (BEND, BEND), (-1,), SAME), (-1, (BEND, BEND), (True,), SAME),
                (-1, [BEND], (), SAME), (-1, (BEND, BEND), [0], SAME), (-1, (list(BEND),), (), SAME),
                (-1, (BEND,), (), list(SAME)), (-1, ((0, 1),), (), SAME), (-1, (BEND,), (), (0,) * 6),
                (-1, ((),), (), SAME), [-1, (), (), SAME], (-1, (), ()), (-1, (), (), SAME, ()), (-1, (), (), None),
                (-1, None, (), SAME), (-1, (), None, SAME), (-1, BEND, (0, 0), SAME), (-1, ((0,) * 7 + (1,),), (), SAME),
                (-1, {}, (), SAME), (-1, "", (), SAME), (-1, (), "", SAME), ((-1,), (BEND,), (), SAME), None, (), "step",
            )
            for thing in wrong:
                self.assertIs(steps.is_step(q, thing), False, thing)

    def test_any_value(self):
        for q in FIELDS:
            draw = samples.drawer(q, "is step")
            things = samples.odd_values()
            for many in (0, 1, 2, 3):
                things += samples.spoilt(samples.step(q, draw, samples.some_degrees(draw, many)), draw, 150)
            for thing in things:
                self.assertIs(steps.is_step(q, thing), reference.is_step(q, thing), thing)


class LeastRows(unittest.TestCase):
    def check_same(self, q, row, other, draw):
        """Two rows move a point alike whose coordinates are polynomials."""
        point = samples.cut_point(q, draw)
        self.assertEqual(reference.cut_row(q, row, point), reference.cut_row(q, other, point))

    def test_rows_of_up_to_24_pieces(self):
        for q in FIELDS:
            draw = samples.drawer(q, "least rows")
            for many in list(range(8)) + [12, 18, 24, 24]:
                row = samples.row(q, draw, many)
                step = steps.step_of_row(q, row)
                self.assertTrue(reference.is_step(q, step))
                self.check_same(q, row, plain_row(step), draw)

    def test_least_rows_stay(self):
        for q in FIELDS:
            draw = samples.drawer(q, "stay")
            for many in (0, 1, 1, 1, 2, 2, 3, 5, 12, 30):
                step = samples.step(q, draw, samples.some_degrees(draw, many))
                row = steps.row_of(q, step)
                self.assertEqual(row, plain_row(step))
                self.assertEqual(steps.step_of_row(q, row), step)

    def test_all_small_rows_over_2(self):
        """Steps of one bend over 2: all their rows, each with just one step."""
        maps = [m for m in itertools.product(range(2), repeat=6) if reference.is_straight(2, m)]
        found = {}
        for first in maps:
            for last in maps:
                row = (("straight", first), ("bend", BEND), ("straight", last))
                found.setdefault(reference.row_pair(2, row), set()).add(steps.step_of_row(2, row))
        self.assertEqual(len(found), 72)
        self.assertEqual({len(some) for some in found.values()}, {1})
        self.assertEqual(len({step for some in found.values() for step in some}), 72)

    def test_pieces_and_their_undoings_set_in(self):
        for q in FIELDS:
            draw = samples.drawer(q, "set in")
            for many in (1, 3, 8, 16):
                row = samples.row(q, draw, many)
                step = steps.step_of_row(q, row)
                for _ in range(3):
                    at = draw.randrange(len(row) + 1)
                    inner = samples.row(q, draw, draw.randrange(1, 4))
                    longer = row[:at] + inner + undone_row(q, inner) + row[at:]
                    self.assertEqual(steps.step_of_row(q, longer), step)

    def test_pieces_written_as_two(self):
        for q in FIELDS:
            draw = samples.drawer(q, "as two")
            for many in (1, 4, 12):
                row = samples.row(q, draw, many)
                at = draw.randrange(many)
                sort, m = row[at]
                if sort == "straight":
                    first = ("straight", samples.straight_of_any_sort(q, draw))
                    rest = self.put_together(q, undone_piece(q, first)[1], m)
                else:
                    first = ("bend", samples.bend(q, draw))
                    rest = self.added(q, m, undone_piece(q, first)[1])
                two = (first, (sort, rest)) if rest else (first,)
                self.assertEqual(steps.step_of_row(q, row[:at] + two + row[at + 1:]), steps.step_of_row(q, row))

    def put_together(self, q, one, other):
        """Two straight maps as one, by their pairs."""
        F, G = [reference.as_dict(part) for part in reference.row_pair(q, (("straight", one), ("straight", other)))]
        return tuple(part.get(at, 0) for part in (F, G) for at in ((1, 0), (0, 1), (0, 0)))

    def added(self, q, f, g):
        size = max(len(f), len(g))
        pad = [part + (0,) * (size - len(part)) for part in (f, g)]
        found = [reference.plus(q, a, b) for a, b in zip(*pad)]
        while found and found[-1] == 0:
            found.pop()
        return tuple(found)

    def test_neighbours_put_together(self):
        for q in FIELDS:
            draw = samples.drawer(q, "neighbours")
            for _ in range(6):
                front, back = samples.row(q, draw, 4), samples.row(q, draw, 4)
                f, g = samples.bend(q, draw), samples.bend(q, draw)
                both = self.added(q, f, g)
                short = (("bend", both),) if both else ()
                self.assertEqual(
                    steps.step_of_row(q, front + (("bend", f), ("bend", g)) + back),
                    steps.step_of_row(q, front + short + back),
                )
                m, n = samples.straight_of_any_sort(q, draw), samples.straight_of_any_sort(q, draw)
                self.assertEqual(
                    steps.step_of_row(q, front + (("straight", m), ("straight", n)) + back),
                    steps.step_of_row(q, front + (("straight", self.put_together(q, m, n)),) + back),
                )

    def test_bends_that_vanish_and_straight_maps_that_come_together(self):
        for q in FIELDS:
            draw = samples.drawer(q, "vanish")
            for degree in range(2, 7):
                f = ("bend", samples.bend(q, draw, degree))
                g = ("bend", samples.bend(q, draw))
                less = undone_piece(q, f)
                for e in range(min(q, 4)):
                    turn = ("straight", (0, 1, 0, 1, e, 0))
                    back = undone_piece(q, turn)
                    self.assertEqual(steps.step_of_row(q, (f, less)), NOTHING)
                    self.assertEqual(steps.step_of_row(q, (turn, f, less, back)), NOTHING)
                    self.assertEqual(steps.step_of_row(q, (g, turn, f, less, back)), steps.step_of_row(q, (g,)))
                    self.assertEqual(
                        steps.step_of_row(q, (g, turn, f, less, back, g)), steps.step_of_row(q, (g, g))
                    )
                    self.assertEqual(
                        steps.step_of_row(q, (g, turn, f, less, turn, g)), steps.step_of_row(q, (g, turn, turn, g))
                    )

    def test_sums_of_bends_with_a_lesser_degree(self):
        for q in FIELDS:
            f, less = (0, 0, 1, 0, 0, 1), (0, 0, 0, 0, 0, reference.opposite(q, 1))
            step = steps.step_of_row(q, (("bend", f), ("bend", less)))
            self.assertEqual(step, (-1, ((0, 0, 1),), (), SAME))

    def test_straight_maps_alone(self):
        for q in FIELDS:
            draw = samples.drawer(q, "straight alone")
            self.assertEqual(steps.step_of_row(q, ()), NOTHING)
            self.assertEqual(steps.nothing(), NOTHING)
            for _ in range(20):
                m, n = samples.straight_of_any_sort(q, draw), samples.straight(q, draw)
                found = steps.step_of_row(q, (("straight", m), ("straight", n)))
                self.assertEqual(found, (-1, (), (), self.put_together(q, m, n)))

    def test_bad_rows(self):
        good = ("bend", BEND)
        for q in FIELDS:
            cases = [(None, 0), ([good], 0), ("", 0), ((good, None), 1), ((None, good), 0), ((good, good, ("bend", ())), 2)]
            cases.append((((good, ("straight", (0, 1, 0, 1, 0, 0))) * 30) + ((), ()), 60))
            for row, place in cases:
                with self.assertRaises(BadPiece) as caught:
                    steps.step_of_row(q, row)
                self.assertEqual(caught.exception.place, place)


class Products(unittest.TestCase):
    def few_steps(self, q, draw):
        return [samples.step(q, draw, samples.some_degrees(draw, many)) for many in (0, 1, 1, 2, 3)]

    def test_products_do_the_one_and_then_the_other(self):
        for q in FIELDS:
            draw = samples.drawer(q, "products")
            few = self.few_steps(q, draw)
            for one in few:
                for other in few:
                    found = steps.product(q, one, other)
                    self.assertTrue(reference.is_step(q, found))
                    point = samples.cut_point(q, draw)
                    right = reference.cut_row(q, plain_row(one) + plain_row(other), point)
                    self.assertEqual(reference.cut_row(q, plain_row(found), point), right)
                    self.assertEqual(found, steps.step_of_row(q, plain_row(one) + plain_row(other)))

    def test_three_steps(self):
        for q in FIELDS:
            few = self.few_steps(q, samples.drawer(q, "three"))
            for one, two, three in itertools.product(few, repeat=3):
                first = steps.product(q, steps.product(q, one, two), three)
                self.assertEqual(first, steps.product(q, one, steps.product(q, two, three)))

    def test_three_steps_that_undo_each_other_partly(self):
        for q in FIELDS:
            draw = samples.drawer(q, "partly")
            one, two = [samples.step(q, draw, samples.some_degrees(draw, 4)) for _ in range(2)]
            less = steps.undoing(q, one)
            both = steps.product(q, one, two)
            self.assertEqual(steps.product(q, less, both), two)
            self.assertEqual(steps.product(q, steps.undoing(q, two), less), steps.undoing(q, both))

    def test_nothing(self):
        for q in FIELDS:
            for step in self.few_steps(q, samples.drawer(q, "nothing")):
                self.assertEqual([steps.product(q, step, NOTHING), steps.product(q, NOTHING, step)], [step, step])

    def test_undoing_in_both_orders(self):
        for q in FIELDS:
            draw = samples.drawer(q, "undoing")
            for many in (0, 0, 1, 1, 2, 3, 12):
                step = samples.step(q, draw, samples.some_degrees(draw, many))
                less = steps.undoing(q, step)
                self.assertTrue(reference.is_step(q, less))
                self.assertEqual(steps.product(q, step, less), NOTHING)
                self.assertEqual(steps.product(q, less, step), NOTHING)
                self.assertEqual(steps.undoing(q, less), step)

    def test_80_bends(self):
        for q in FIELDS:
            draw = samples.drawer(q, "80")
            one, other = [samples.step(q, draw, samples.some_degrees(draw, 80)) for _ in range(2)]
            both = steps.product(q, one, other)
            self.assertTrue(reference.is_step(q, both))
            point = samples.cut_point(q, draw)
            right = reference.cut_row(q, plain_row(one) + plain_row(other), point)
            self.assertEqual(reference.cut_row(q, plain_row(both), point), right)
            less = steps.undoing(q, one)
            self.assertEqual(steps.degrees_of(q, less), steps.degrees_of(q, one)[::-1])
            self.assertEqual(steps.product(q, one, less), NOTHING)


class Repeats(unittest.TestCase):
    def test_as_products(self):
        for q in FIELDS:
            draw = samples.drawer(q, "repeats")
            for many in (0, 1, 2):
                step = samples.step(q, draw, samples.some_degrees(draw, many))
                less = steps.undoing(q, step)
                forth, back = NOTHING, NOTHING
                for n in range(21):
                    self.assertEqual(steps.repeat(q, step, n), forth)
                    self.assertEqual(steps.repeat(q, step, -n), back)
                    forth, back = steps.product(q, forth, step), steps.product(q, back, less)

    def test_sums_of_exponents(self):
        for q in FIELDS:
            draw = samples.drawer(q, "exponents")
            step = samples.step(q, draw, samples.some_degrees(draw, 2))
            for n in range(-20, 21, 4):
                for m in range(-20 - min(n, 0), 21 - max(n, 0), 5):
                    both = steps.product(q, steps.repeat(q, step, n), steps.repeat(q, step, m))
                    self.assertEqual(both, steps.repeat(q, step, n + m))

    def test_edges(self):
        for q in FIELDS:
            draw = samples.drawer(q, "edges")
            step = samples.step(q, draw, (2, 3, 4))
            self.assertEqual(steps.repeat(q, step, 0), NOTHING)
            self.assertEqual(steps.repeat(q, step, 1), step)
            self.assertEqual(steps.repeat(q, step, -1), steps.undoing(q, step))
            self.assertEqual(steps.repeat(q, NOTHING, 20), NOTHING)


class Degrees(unittest.TestCase):
    def few_steps(self, q, draw):
        degrees = [part for part in samples.degrees_up_to(36) if len(part) < 4]
        return [samples.step(q, draw, draw.choice(degrees)) for _ in range(8)] + [NOTHING]

    def test_degrees_and_determinants_of_pairs(self):
        for q in FIELDS:
            for step in self.few_steps(q, samples.drawer(q, "degrees")):
                pair = steps.pair_of(q, step)
                right = 1
                for degree in steps.degrees_of(q, step):
                    right *= degree
                self.assertEqual(pairs.pair_degree(pair), right)
                self.assertEqual(steps.degrees_of(q, step), tuple(len(bend) - 1 for bend in step[1]))
                self.assertEqual(((0, 0, steps.determinant_of(q, step)),), pairs.determinant(q, pair))

    def test_products_and_undoings(self):
        for q in FIELDS:
            draw = samples.drawer(q, "determinants")
            few = [samples.step(q, draw, samples.some_degrees(draw, many)) for many in (0, 1, 2, 5)]
            for one in few:
                less = steps.undoing(q, one)
                number = steps.determinant_of(q, one)
                self.assertNotEqual(number, 0)
                self.assertEqual(reference.times(q, number, steps.determinant_of(q, less)), 1)
                self.assertEqual(steps.degrees_of(q, less), steps.degrees_of(q, one)[::-1])
                for other in few:
                    both = steps.determinant_of(q, steps.product(q, one, other))
                    self.assertEqual(both, reference.times(q, number, steps.determinant_of(q, other)))

    def test_determinants_of_turns_and_bends(self):
        for q in FIELDS:
            less = reference.opposite(q, 1)
            self.assertEqual(steps.determinant_of(q, NOTHING), 1)
            self.assertEqual(steps.determinant_of(q, (-1, (BEND,), (), SAME)), 1)
            self.assertEqual(steps.determinant_of(q, (0, (BEND,), (), SAME)), less)
            self.assertEqual(steps.determinant_of(q, (-1, (BEND, BEND), (q - 1,), SAME)), less)
            self.assertEqual(steps.determinant_of(q, (1, (BEND, BEND), (q - 1,), SAME)), 1)


class PairsAndPoints(unittest.TestCase):
    def test_pair_is_that_of_the_row(self):
        for q in FIELDS:
            draw = samples.drawer(q, "pair of")
            for most, many in ((1, 4), (4, 5), (6, 7), (12, 12)):
                row = samples.row_of_degree(q, draw, most, many)
                step = steps.step_of_row(q, row)
                self.assertEqual(steps.pair_of(q, step), reference.row_pair(q, row))

    def test_degree_36(self):
        for q in FIELDS:
            draw = samples.drawer(q, "36")
            for degrees in ((6, 6), (2, 3, 6), (2, 2, 3, 3), (3, 3, 4), (5, 6)):
                step = samples.step(q, draw, degrees)
                found = steps.pair_of(q, step)
                self.assertEqual(found, pairs.pair_by_row(q, plain_row(step)))
            self.assertEqual(pairs.pair_degree(found), 30)

    def test_points(self):
        for q in FIELDS:
            draw = samples.drawer(q, "points")
            step = samples.step(q, draw, (2, 3, 2))
            pair, row = steps.pair_of(q, step), steps.row_of(q, step)
            for point in itertools.product(range(q), repeat=2):
                moved = steps.point_after(q, step, point)
                self.assertEqual(moved, pairs.point_by_pair(q, pair, point))
                self.assertEqual(moved, pairs.point_by_row(q, row, point))
                self.assertEqual(steps.point_after(q, steps.undoing(q, step), moved), point)


class Parting(unittest.TestCase):
    def plain_parting(self, q, one, other):
        parted = []
        for letter, F, G in zip("FG", steps.pair_of(q, one), steps.pair_of(q, other)):
            parted += [(letter, i, j) for i, j, c in set(F) ^ set(G)]
        return min(parted, default=None)

    def test_any_two(self):
        for q in FIELDS:
            draw = samples.drawer(q, "parting")
            few = [samples.step(q, draw, degrees) for degrees in ((), (), (2,), (2,), (3, 2), (6, 6))]
            for one in few:
                for other in few:
                    self.assertEqual(steps.parting(q, one, other), self.plain_parting(q, one, other))
                self.assertIs(steps.parting(q, one, one), None)

    def test_steps_that_are_nearly_equal(self):
        for q in FIELDS:
            draw = samples.drawer(q, "near")
            start, bends, turns, last = samples.step(q, draw, (2, 3))
            for at in (2, 5):
                number = reference.plus(q, last[at], 1)
                near = (start, bends, turns, last[:at] + (number,) + last[at + 1:])
                self.assertEqual(steps.parting(q, near, (start, bends, turns, last)), ("F" if at == 2 else "G", 0, 0))
            bend = bends[0][:-1] + (reference.plus(q, bends[0][-1], 1) or 1,)
            if bend != bends[0]:
                near = (start, (bend, bends[1]), turns, last)
                one = (start, bends, turns, last)
                self.assertEqual(steps.parting(q, near, one), self.plain_parting(q, near, one))

    def test_same_points_and_unlike_steps(self):
        step = (-1, (BEND,), (), (1, 1, 0, 0, 1, 0))
        for point in itertools.product(range(2), repeat=2):
            self.assertEqual(steps.point_after(2, step, point), point)
        self.assertEqual(steps.parting(2, step, NOTHING), ("F", 0, 1))


class BadSteps(unittest.TestCase):
    def test_first_that_is_no_step(self):
        for q in FIELDS:
            draw = samples.drawer(q, "bad steps")
            good = samples.step(q, draw, (2, 3))
            for bad in samples.odd_values() + samples.spoilt(good, draw, 40):
                if reference.is_step(q, bad):
                    continue
                other = ("no", "step")
                calls = (
                    lambda: steps.row_of(q, bad), lambda: steps.product(q, bad, other),
                    lambda: steps.product(q, good, bad), lambda: steps.undoing(q, bad),
                    lambda: steps.repeat(q, bad, 0), lambda: steps.point_after(q, bad, (0, 0)),
                    lambda: steps.degrees_of(q, bad), lambda: steps.determinant_of(q, bad),
                    lambda: steps.pair_of(q, bad), lambda: steps.parting(q, bad, other),
                    lambda: steps.parting(q, good, bad), lambda: steps.parting(q, bad, bad),
                )
                for call in calls:
                    with self.assertRaises(BadStep) as caught:
                        call()
                    self.assertIs(caught.exception.thing, bad)


if __name__ == "__main__":
    unittest.main()
