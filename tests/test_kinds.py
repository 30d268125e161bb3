"""Part 6, [6.1] to [6.3]: changes of letters, short steps, walks, orders, certificates."""

import unittest

from bentplane import kinds, steps
from bentplane.errors import BadStep, NotResting
from tests import plain, reference, samples
from tests.plain import NOTHING, SAME, SWAP
from tests.reference import FIELDS

BEND = (0, 0, 1)


def any_steps(q, draw, most):
    """Steps with 0 to so many bends, drawn from all of them."""
    return [samples.step(q, draw, samples.some_degrees(draw, many)) for many in range(most + 1)]


def turned(q, draw, core, many):
    """A step of which the core is a short form, behind a change of so many bends."""
    return plain.seen_back(q, core, samples.step(q, draw, samples.some_degrees(draw, many)))


def resting_cores(q, draw):
    return [NOTHING, samples.straight_step(q, draw), samples.straight_step(q, draw), samples.bent_step(q, draw),
            samples.bent_step(q, draw), (-1, (samples.bend(q, draw),), (), SAME)]


def resting_steps(q, draw):
    """Steps that rest, with up to 12 bends."""
    found = []
    for many in (0, 1, 2, 5):
        found += [turned(q, draw, core, many) for core in resting_cores(q, draw)]
    return found + [turned(q, draw, samples.straight_step(q, draw), 6)]


def growing_steps(q, draw):
    """Pairs of a step that grows, with up to 12 bends, and the number of bends of its short forms."""
    found = []
    for many, more in ((1, 0), (2, 0), (12, 0), (1, 1), (1, 5), (2, 2), (3, 4), (5, 3)):
        found.append((turned(q, draw, samples.core(q, draw, samples.some_degrees(draw, many)), more), many))
    return found


class Seen(unittest.TestCase):
    def test_least_row_of_the_three(self):
        for q in FIELDS:
            draw = samples.drawer(q, "seen")
            for many, more in ((0, 0), (0, 2), (1, 0), (1, 1), (2, 3), (5, 2), (12, 12)):
                step = samples.step(q, draw, samples.some_degrees(draw, many))
                change = samples.step(q, draw, samples.some_degrees(draw, more))
                found = kinds.seen(q, step, change)
                self.assertTrue(reference.is_step(q, found))
                row = steps.row_of(q, steps.undoing(q, change)) + steps.row_of(q, step) + steps.row_of(q, change)
                self.assertEqual(found, steps.step_of_row(q, row))
                point = samples.cut_point(q, draw)
                right = reference.cut_row(q, row, point)
                self.assertEqual(reference.cut_row(q, steps.row_of(q, found), point), right)

    def test_changes_that_begin_with_pieces_of_the_step(self):
        for q in FIELDS:
            draw = samples.drawer(q, "pieces")
            for many in (1, 2, 4, 7):
                step = samples.step(q, draw, samples.some_degrees(draw, many))
                row = steps.row_of(q, step)
                for cut in (1, len(row) // 2, len(row) - 1, len(row)):
                    for tail in ((), samples.row(q, draw, 2)):
                        change = steps.step_of_row(q, row[:cut] + tail)
                        found = kinds.seen(q, step, change)
                        self.assertEqual(found, plain.seen(q, step, change))
                        if tail == ():
                            self.assertEqual(found, steps.step_of_row(q, row[cut:] + row[:cut]))

    def test_one_change_and_then_another(self):
        for q in FIELDS:
            draw = samples.drawer(q, "two changes")
            for step in any_steps(q, draw, 4):
                one, other = samples.step(q, draw, (2, 3)), samples.step(q, draw, samples.some_degrees(draw, 1))
                both = kinds.seen(q, kinds.seen(q, step, one), other)
                self.assertEqual(both, kinds.seen(q, step, steps.product(q, one, other)))

    def test_seen_back(self):
        for q in FIELDS:
            draw = samples.drawer(q, "back")
            for step in any_steps(q, draw, 4):
                for change in any_steps(q, draw, 4) + [step, NOTHING]:
                    found = kinds.seen(q, step, change)
                    self.assertEqual(kinds.seen(q, found, steps.undoing(q, change)), step)
                self.assertEqual(kinds.seen(q, step, NOTHING), step)
                self.assertEqual(kinds.seen(q, step, step), step)
                self.assertEqual(kinds.seen(q, NOTHING, step), NOTHING)

    def test_products_and_undoings_are_seen_as_such(self):
        for q in FIELDS:
            draw = samples.drawer(q, "seen products")
            one, other, change = [samples.step(q, draw, samples.some_degrees(draw, 2)) for _ in range(3)]
            both = steps.product(q, kinds.seen(q, one, change), kinds.seen(q, other, change))
            self.assertEqual(kinds.seen(q, steps.product(q, one, other), change), both)
            less = kinds.seen(q, steps.undoing(q, one), change)
            self.assertEqual(less, steps.undoing(q, kinds.seen(q, one, change)))


class Short(unittest.TestCase):
    def test_sorts(self):
        for q in FIELDS:
            for step, right in (
                (NOTHING, True), ((-1, (), (), SWAP), True), ((-1, (BEND,), (), SAME), True),
                ((-1, (BEND,), (), SWAP), True), ((-1, (BEND, BEND), (0,), SWAP), True),
                ((-1, (BEND, BEND), (0,), SAME), False), ((0, (BEND,), (), SAME), False),
                ((0, (BEND,), (), SWAP), False), ((q - 1, (BEND, BEND), (0,), SWAP), False),
                ((-1, (BEND, BEND, BEND), (0, 0), (1, 1, 0, 0, 1, 0)), False),
            ):
                self.assertIs(kinds.is_short(q, step), right)

    def test_drawn_steps(self):
        for q in FIELDS:
            draw = samples.drawer(q, "is short")
            for step in any_steps(q, draw, 12) + any_steps(q, draw, 3) + any_steps(q, draw, 3):
                self.assertIs(kinds.is_short(q, step), plain.sort_of_short(step) > 0)
                step = (-1, *step[1:])
                self.assertIs(kinds.is_short(q, step), plain.sort_of_short(step) > 0)

    def check_short_form(self, q, step):
        found = kinds.short_form(q, step)
        self.assertEqual([type(found), len(found)], [tuple, 2])
        core, change = found
        self.assertTrue(reference.is_step(q, core) and reference.is_step(q, change))
        self.assertLessEqual(len(change[1]), 12)
        self.assertGreater(plain.sort_of_short(core), 0)
        self.assertEqual(plain.seen(q, step, change), core)
        return core

    def test_short_forms_of_0_to_12_bends(self):
        for q in FIELDS:
            draw = samples.drawer(q, "short forms")
            for step in any_steps(q, draw, 12) + any_steps(q, draw, 12):
                self.check_short_form(q, step)

    def test_short_forms_of_each_sort(self):
        for q in FIELDS:
            draw = samples.drawer(q, "each sort")
            for step in resting_steps(q, draw):
                self.assertIn(plain.sort_of_short(self.check_short_form(q, step)), (1, 2))
            for step, many in growing_steps(q, draw):
                core = self.check_short_form(q, step)
                self.assertEqual([plain.sort_of_short(core), len(core[1])], [3, many])

    def test_steps_whose_ends_undo_each_other_partly(self):
        """Last bends that take the first one in, and are left with a lesser degree or vanish."""
        for q in FIELDS:
            draw = samples.drawer(q, "partly")
            for _ in range(8):
                bends = [samples.bend(q, draw, degree) for degree in (3, 4, 2)]
                less = tuple(reference.opposite(q, c) for c in bends[0])
                for last in (less, (*less[:2], reference.plus(q, less[2], 1), *less[3:]), bends[0]):
                    turns = tuple(draw.randrange(q) for _ in range(3))
                    step = (-1, (*bends, last), turns, (1, draw.randrange(q), 0, 0, 1, draw.randrange(q)))
                    core = self.check_short_form(q, step)
                    self.assertEqual(2 * len(core[1]) if core[3][3] and core[1] else 0, plain.walk(q, step))


class Walks(unittest.TestCase):
    def check_walk(self, q, step, right):
        self.assertEqual(kinds.walk(q, step), right)
        self.assertIs(kinds.is_resting(q, step), right == 0)

    def test_drawn_steps(self):
        for q in FIELDS:
            draw = samples.drawer(q, "walk")
            for step in any_steps(q, draw, 12) + any_steps(q, draw, 4) + any_steps(q, draw, 4):
                self.check_walk(q, step, plain.walk(q, step))

    def test_resting_and_growing_steps(self):
        for q in FIELDS:
            draw = samples.drawer(q, "known walks")
            for step in resting_steps(q, draw):
                self.check_walk(q, step, 0)
            for step, many in growing_steps(q, draw):
                self.check_walk(q, step, 2 * many)

    def test_products_in_both_orders(self):
        for q in FIELDS:
            draw = samples.drawer(q, "both orders")
            few = any_steps(q, draw, 3) + resting_steps(q, draw)[:4]
            for one in few:
                for other in few:
                    both = kinds.walk(q, steps.product(q, one, other))
                    self.assertEqual(both, kinds.walk(q, steps.product(q, other, one)))
                    self.assertEqual(both, plain.walk(q, steps.product(q, one, other)))

    def test_undoings_and_repeats(self):
        for q in FIELDS:
            draw = samples.drawer(q, "repeats")
            for step in any_steps(q, draw, 4) + [step for step, many in growing_steps(q, draw) if len(step[1]) < 5]:
                walk = kinds.walk(q, step)
                self.assertEqual(kinds.walk(q, steps.undoing(q, step)), walk)
                for n in (-3, -2, 0, 2, 3, 4):
                    self.check_walk(q, steps.repeat(q, step, n), abs(n) * walk)

    def test_kin_steps(self):
        for q in FIELDS:
            draw = samples.drawer(q, "kin")
            for step in any_steps(q, draw, 4) + resting_steps(q, draw)[:6]:
                for change in any_steps(q, draw, 3):
                    other = plain.seen(q, step, change)
                    self.assertEqual(kinds.walk(q, other), kinds.walk(q, step))
                    if kinds.is_resting(q, step):
                        self.assertEqual(kinds.order(q, other), kinds.order(q, step))


class Orders(unittest.TestCase):
    def test_least_repeat(self):
        for q in FIELDS:
            draw = samples.drawer(q, "orders")
            for step in resting_steps(q, draw):
                self.assertEqual(kinds.order(q, step), plain.order(q, step))
            self.assertEqual(kinds.order(q, NOTHING), 1)
            self.assertEqual(kinds.order(q, (-1, (), (), SWAP)), 2)
            self.assertEqual(kinds.order(q, (-1, (BEND,), (), SAME)), reference.characteristic(q))

    def test_straight_maps(self):
        for q in FIELDS:
            draw = samples.drawer(q, "straight orders")
            for _ in range(12):
                m = samples.straight_of_any_sort(q, draw)
                self.assertEqual(kinds.order(q, (-1, (), (), m)), plain.straight_order(q, m))

    def test_greatest_orders(self):
        for q in FIELDS:
            draw = samples.drawer(q, "greatest")
            change = samples.step(q, draw, (2, 3, 2))
            orders = []
            for d in range(1, q):
                for e in range(q):
                    orders.append(kinds.order(q, (-1, (), (), (0, 1, 0, d, e, 0))))
                    if orders[-1] == q * q - 1 and orders.count(q * q - 1) == 1:
                        m = (0, 1, draw.randrange(q), d, e, draw.randrange(q))
                        self.assertEqual(plain.straight_order(q, m), q * q - 1)
                        self.assertEqual(kinds.order(q, plain.seen(q, (-1, (), (), m), change)), q * q - 1)
            self.assertEqual(max(orders), q * q - 1)

    def test_bends_that_come_back_late(self):
        """(x, y) goes to (x + y^(p - 1), y + 1): the p-th repeat shifts x, so the order is p p."""
        for q in FIELDS:
            p = reference.characteristic(q)
            if 3 <= p <= 7:
                bend = (0,) * (p - 1) + (1,)
                self.assertEqual(kinds.order(q, (-1, (bend,), (), (1, 0, 0, 0, 1, 1))), p * p)
        self.assertEqual(kinds.order(2, (-1, ((0, 0, 0, 1),), (), (1, 0, 0, 0, 1, 1))), 4)

    def test_bends_that_add_up(self):
        """(x, y) goes to (a x + y y, e y) with a = e e: each repeat adds to x, so the order is p times that of e."""
        for q in FIELDS:
            for e in range(1, q):
                n, found = 1, e
                while found != 1:
                    n, found = n + 1, reference.times(q, found, e)
                a = reference.times(q, e, e)
                self.assertEqual(kinds.order(q, (-1, (BEND,), (), (a, 0, 0, 0, e, 0))), n * reference.characteristic(q))

    def test_growing_steps_are_refused(self):
        for q in FIELDS:
            for step, _ in growing_steps(q, samples.drawer(q, "not resting")):
                with self.assertRaises(NotResting) as caught:
                    kinds.order(q, step)
                self.assertIs(caught.exception.thing, step)


class Certificates(unittest.TestCase):
    def test_told_ones_of_steps_that_rest(self):
        for q in FIELDS:
            draw = samples.drawer(q, "rests")
            for step in resting_steps(q, draw):
                found = kinds.judge_kind(q, step)
                self.assertEqual([type(found), len(found), found[0]], [tuple, 2, "rests"])
                self.assertGreaterEqual(found[1], 1)
                self.assertEqual(found[1] % plain.order(q, step), 0)
                self.assertIs(kinds.kind_holds(q, step, found), True)
                for change in any_steps(q, draw, 2) + [NOTHING, kinds.short_form(q, step)[1]]:
                    self.assertIs(kinds.kind_holds(q, step, ("grows", change)), False)

    def test_told_ones_of_steps_that_grow(self):
        for q in FIELDS:
            draw = samples.drawer(q, "grows")
            for step, _ in growing_steps(q, draw) + [(step, 0) for step in any_steps(q, draw, 12) if plain.walk(q, step)]:
                found = kinds.judge_kind(q, step)
                self.assertEqual([type(found), len(found), found[0]], [tuple, 2, "grows"])
                self.assertEqual(plain.sort_of_short(plain.seen(q, step, found[1])), 3)
                self.assertLessEqual(len(found[1][1]), 12)
                self.assertIs(kinds.kind_holds(q, step, found), True)
                for n in (1, 2, 60, 27720 * 26 * 17 * 255, 10 ** 39):
                    self.assertIs(kinds.kind_holds(q, step, ("rests", n)), False)

    def test_all_integers_for_rests(self):
        for q in FIELDS:
            draw = samples.drawer(q, "integers")
            for step in resting_steps(q, draw)[:14]:
                order = plain.order(q, step)
                for n in [*range(-3, 40), order, -order, 2 * order, order + 1, order * 10 ** 35, order * 10 ** 35 + 1]:
                    self.assertIs(kinds.kind_holds(q, step, ("rests", n)), n > 0 and n % order == 0)
                for n in (True, False, None, str(order), (order,), [order]):
                    self.assertIs(kinds.kind_holds(q, step, ("rests", n)), False)
            self.assertIs(kinds.kind_holds(q, NOTHING, ("rests", 1)), True)
            self.assertIs(kinds.kind_holds(q, NOTHING, ("rests", True)), False)

    def test_other_changes_for_grows(self):
        for q in FIELDS:
            draw = samples.drawer(q, "changes")
            for step, many in growing_steps(q, draw)[:6]:
                core, change = kinds.short_form(q, step)
                tries = any_steps(q, draw, 3) + [NOTHING, step, steps.undoing(q, change)]
                tries += [steps.product(q, change, other) for other in any_steps(q, draw, 2) + [core]]
                tries += [steps.product(q, change, (-1, (), (), samples.map_of_both(q, draw))) for _ in range(3)]
                if many > 1:
                    row = steps.row_of(q, core)
                    tries += [steps.product(q, change, steps.step_of_row(q, row[:cut])) for cut in (1, 2, 3)]
                for other in tries:
                    right = plain.sort_of_short(plain.seen(q, step, other)) == 3
                    self.assertIs(kinds.kind_holds(q, step, ("grows", other)), right)

    def test_changes_over_another_field(self):
        for q in FIELDS:
            core = (-1, (BEND,), (), SWAP)
            for number, right in ((q - 1, True), (q, False), (16, False)):
                change = (-1, (), (), (number, 0, 0, 0, 1, 0))
                self.assertIs(kinds.kind_holds(q, core, ("grows", change)), right)

    def test_any_value(self):
        for q in FIELDS:
            draw = samples.drawer(q, "any value")
            for step in resting_steps(q, draw)[5:8] + [step for step, _ in growing_steps(q, draw)[3:5]]:
                found = kinds.judge_kind(q, step)
                things = samples.odd_values() + samples.spoilt(found, draw, 60)
                things += [list(found), found[::-1], found * 2, found[:1], (found,), (found[0].upper(), found[1])]
                things += [(*found, None), ("stuck", found[1]), ({}, found[1]), ([], 1), ((), 1), (None, None)]
                for thing in things:
                    self.assertIs(kinds.kind_holds(q, step, thing), self.plainly_holds(q, step, thing), thing)

    def plainly_holds(self, q, step, thing):
        if type(thing) is not tuple or len(thing) != 2 or type(thing[0]) is not str:
            return False
        if thing[0] == "rests":
            right = type(thing[1]) is int and thing[1] > 0 and plain.walk(q, step) == 0
            return right and thing[1] % plain.order(q, step) == 0
        if thing[0] == "grows" and reference.is_step(q, thing[1]):
            return plain.sort_of_short(plain.seen(q, step, thing[1])) == 3
        return False


class Refused(unittest.TestCase):
    def test_first_that_is_no_step(self):
        for q in FIELDS:
            draw = samples.drawer(q, "bad steps")
            good = samples.core(q, draw, (2, 3))
            for bad in samples.odd_values() + samples.spoilt(good, draw, 40):
                if reference.is_step(q, bad):
                    continue
                other = ("no", "step")
                calls = (
                    lambda: kinds.seen(q, bad, other), lambda: kinds.seen(q, good, bad), lambda: kinds.is_short(q, bad),
                    lambda: kinds.short_form(q, bad), lambda: kinds.walk(q, bad), lambda: kinds.is_resting(q, bad),
                    lambda: kinds.judge_kind(q, bad), lambda: kinds.kind_holds(q, bad, ("rests", 1)),
                    lambda: kinds.kind_holds(q, bad, None), lambda: kinds.order(q, bad),
                )
                for call in calls:
                    with self.assertRaises(BadStep) as caught:
                        call()
                    self.assertIs(caught.exception.thing, bad)


if __name__ == "__main__":
    unittest.main()
