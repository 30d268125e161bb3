"""The guarantee [0.3], over the whole program: what its parts tell of the same things agrees."""

import unittest

from bentplane import (
    commuters, counting, exchanges, families, free, kept, kinds, larger, letters, pairs, peeling, repeats, sizes, steps, texts, tree,
)
from bentplane.errors import Broken
from bentplane.houses import House, read_house
from tests import plain, reference, samples
from tests.plain import NOTHING, ROOT
from tests.reference import FIELDS

ABOVE = {2: (4, 8, 16), 3: (9,), 4: (16,)}


def lifted_row(q, r, row):
    def up(numbers):
        return tuple(larger.number_lifted(q, r, n) for n in numbers)

    return tuple((sort, up(piece)) for sort, piece in row)


class Rows(unittest.TestCase):
    def test_rows_steps_pairs_and_lifted_ones(self):
        for q in FIELDS:
            draw = samples.drawer(q, "rows")
            for _ in range(6):
                row = samples.row_of_degree(q, draw, 12, 6)
                step, pair = steps.step_of_row(q, row), pairs.pair_by_row(q, row)
                self.assertEqual(steps.pair_of(q, step), pair)
                self.assertEqual(peeling.judge_pair(q, pair), ("step", step))
                self.assertIs(peeling.is_undoable(q, pair), True)
                self.assertEqual(steps.step_of_row(q, steps.row_of(q, step)), step)
                self.assertEqual(((0, 0, steps.determinant_of(q, step)),), pairs.determinant(q, pair))
                self.assertEqual(counting.step_at(q, steps.degrees_of(q, step), counting.step_number(q, step)), step)
                self.assertEqual(texts.read_step(q, texts.step_text(q, step)), step)
                self.check_points(q, draw, row, step, pair)
                for r in ABOVE.get(q, ()):
                    up, up_step = lifted_row(q, r, row), larger.step_lifted(q, r, step)
                    self.assertEqual(steps.step_of_row(r, up), up_step)
                    self.check_points(r, draw, up, up_step, pairs.pair_by_row(r, up))

    def check_points(self, q, draw, row, step, pair):
        exchange = exchanges.exchange_of(q, step)
        for _ in range(4):
            point = (draw.randrange(q), draw.randrange(q))
            there = pairs.point_by_row(q, row, point)
            self.assertEqual(steps.point_after(q, step, point), there)
            self.assertEqual(pairs.point_by_pair(q, pair, point), there)
            self.assertEqual(divmod(exchange[point[0] * q + point[1]], q), there)

    def test_alike_exactly_if_equal(self):
        for q in FIELDS:
            draw = samples.drawer(q, "alike")
            few = [samples.step(q, draw, degrees) for degrees in ((), (2,), (2, 3), (3,))]
            few += [steps.product(q, few[1], steps.undoing(q, few[1])), NOTHING]
            for one in few:
                for other in few:
                    alike = steps.parting(q, one, other) is None
                    self.assertEqual(alike, one == other)
                    self.assertEqual(alike, steps.pair_of(q, one) == steps.pair_of(q, other))
                    if alike:
                        self.assertIsNone(larger.parted_point(q, one, other))


class Kinds(unittest.TestCase):
    def test_resting_and_growing(self):
        for q in FIELDS:
            draw = samples.drawer(q, "kinds")
            tries = [samples.step(q, draw, samples.some_degrees(draw, many)) for many in (0, 1, 1, 2, 2, 3)]
            for step in tries + [samples.resting_step(q, draw, 2), samples.resting_step(q, draw, 1)]:
                certificate = kinds.judge_kind(q, step)
                family = (step,)
                self.assertIs(families.is_finite(q, family), certificate[0] == "rests")
                self.assertIs(free.are_free(q, step, step), False)
                if certificate[0] == "rests":
                    self.assertEqual(sizes.many_deeds(q, family), kinds.order(q, step))
                    self.assertEqual(repeats.far_repeat(q, step, certificate[1]), NOTHING)
                    self.assertEqual(kinds.order(q, step) % exchanges.point_order(q, step), 0)
                    self.assertTrue(tree.is_kept(q, step, families.common_place(q, family)))
                    self.assertEqual(families.common_place(q, family), tree.nearest(q, step, ROOT))
                    self.assertEqual(free.free_holds(q, step, step, ("tied", (1,), certificate[1])), True)
                else:
                    self.assertIsNone(families.common_place(q, family))
                    self.assertEqual(len(tree.line_stretch(q, step)), kinds.walk(q, step) + 1)
                    self.assertEqual(free.free_holds(q, step, step, ("tied", (1, -2), 1)), True)

    def test_commuting_steps_are_not_free(self):
        for q in (2, 3):
            draw = samples.drawer(q, "commuting")
            for degrees in ((2,), (3,), (2, 2), (2, 3)):
                step = samples.core(q, draw, degrees)
                for other in (commuters.least_commuter(q, step), *commuters.resting_commuters(q, step)[:2]):
                    self.assertIs(free.are_free(q, step, other), False)
                form, change = letters.least_form(q, step)
                self.assertEqual(free.judge_free(q, form, plain.seen(q, step, change))[0], "tied")


class Families(unittest.TestCase):
    def test_finite_exactly_if_all_two_rest(self):
        for q in FIELDS:
            draw = samples.drawer(q, "families")
            for many in (1, 2, 3, 4):
                for family in (samples.finite_family(q, draw, many, 1)[0],
                               tuple(samples.resting_step(q, draw, draw.randrange(2)) for _ in range(many))):
                    both = [steps.product(q, one, other) for one in family for other in family]
                    right = all(kinds.is_resting(q, step) for step in (*family, *both))
                    self.assertIs(families.is_finite(q, family), right)
                    self.assertIs(sizes.many_deeds(q, family) is not None, right)
                    if not right:
                        # Some word makes a step that grows, with degrees of repeats that are told.
                        numbers = families.judge_finite(q, family)[1]
                        step = families.word_step(q, family, numbers)
                        self.assertNotEqual(repeats.growth(q, step), (0, 0, 0))

    def test_deeds_are_closed(self):
        for q in (2, 3, 5):
            draw = samples.drawer(q, "closed")
            for depth in (0, 1, 2):
                family = samples.finite_family(q, draw, 2, depth)[0]
                listed = sizes.deeds(q, family)
                if listed is None or len(listed) > 300:
                    continue
                self.assertEqual(len(listed), sizes.many_deeds(q, family))
                known = set(listed)
                for step in listed[:40]:
                    self.assertIn(steps.undoing(q, step), known)
                    self.assertIn(steps.product(q, step, draw.choice(listed)), known)
                    self.assertEqual(len(listed) % kinds.order(q, step), 0)

    def test_polynomials_kept_by_all_deeds(self):
        for q in FIELDS:
            draw = samples.drawer(q, "kept")
            family = (samples.straight_step(q, draw), samples.straight_step(q, draw))
            word = families.word_step(q, family, samples.word(draw, 2, 6))
            for poly in kept.kept_base(q, family, 4):
                self.assertIs(kept.has_kept(q, (word,), poly), True)

    def test_lifted_families(self):
        for q in ABOVE:
            draw = samples.drawer(q, "lifted")
            for r in ABOVE[q]:
                family = samples.finite_family(q, draw, 2, 1)[0]
                up = tuple(larger.step_lifted(q, r, step) for step in family)
                self.assertEqual(sizes.many_deeds(r, up), sizes.many_deeds(q, family))
                place = families.common_place(q, family)
                self.assertEqual(families.judge_finite(r, up)[2], place[0])
                one, other = samples.core(q, draw, (2,)), samples.core(q, draw, (3, 2))
                lifted = [larger.step_lifted(q, r, step) for step in (one, other)]
                self.assertIs(free.are_free(r, *lifted), free.are_free(q, one, other))


class Houses(unittest.TestCase):
    def test_promises_hold_as_the_other_parts_tell(self):
        for q in FIELDS:
            draw = samples.drawer(q, "houses")
            house = House(q)
            for name in ("a", "b", "c", "d"):
                house.put(name, draw.choice((samples.resting_step(q, draw, 0), samples.core(q, draw, (2,)), samples.step(q, draw, (2,)))))
            known = dict(house.names())
            for one, other in (("a", "b"), ("a", "c"), ("b", "d"), ("c", "d")):
                two = (known[one], known[other])
                for promise, right in (
                    (("finite", (one, other)), families.is_finite(q, two)), (("free", one, other), free.are_free(q, *two)),
                    (("unlike", one, other), two[0] != two[1]), (("grows", one), kinds.walk(q, two[0]) > 0),
                ):
                    if promise in house.promises() or len(house.promises()) == 12:
                        continue
                    try:
                        house.make(promise)
                        self.assertTrue(right)
                    except Broken as error:
                        self.assertEqual([error.promise, right], [promise, False])
            self.assertIs(house.is_same(read_house(house.text())), True)


if __name__ == "__main__":
    unittest.main()
