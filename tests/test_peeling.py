"""Part 3: peeling, and the certificates that it ends with."""

import itertools
import unittest

from bentplane import pairs, peeling, steps
from bentplane.errors import BadPair
from tests import reference, samples
from tests.reference import FIELDS, as_dict, as_poly

X, Y = ((1, 0, 1),), ((0, 1, 1),)
NOTHING = (X, Y)
SAME = (1, 0, 0, 0, 1, 0)
SWAP = ("straight", (0, 1, 0, 1, 0, 0))


def highest(F):
    return {at: c for at, c in F.items() if sum(at) == reference.degree(F)}


def plain_lowers(q, F, G):
    """Whether G is lowered by F: every number is tried."""
    m, n = reference.degree(F), reference.degree(G)
    if m < 1 or n < m or n % m != 0:
        return False
    raised = {(0, 0): 1}
    for _ in range(n // m):
        raised = reference.poly_times(q, raised, highest(F))
    return any(reference.poly_times(q, {(0, 0): c}, raised) == highest(G) for c in range(1, q))


def plain_lowered_by(q, pair):
    F, G = [as_dict(part) for part in pair]
    return ("F",) * plain_lowers(q, F, G) + ("G",) * plain_lowers(q, G, F)


def plain_is_straight(q, pair):
    if max(sum(term[:2]) for term in pair[0] + pair[1] + ((0, 0, 1),)) > 1:
        return False
    m = tuple(as_dict(part).get(at, 0) for part in pair for at in ((1, 0), (0, 1), (0, 0)))
    return reference.is_straight(q, m)


def plain_sticks(q, pair, row):
    """Whether the pair and then the row is neither straight nor lowered."""
    for piece in row:
        bent = [as_poly(part) for part in reference.piece_pair(piece)]
        pair = pairs.pair_then(q, pair, tuple(bent))
    return not plain_is_straight(q, pair) and plain_lowered_by(q, pair) == ()


def cores(q):
    """Pairs that stick as they are."""
    return (
        (((1, 0, 1), (3, 0, 1)), Y), (((2, 0, 1),), ((0, 2, q - 1),)), (((1, 1, 1),), Y), (X, ()), ((), X),
        ((), ()), (((0, 0, 1),), ((0, 0, q - 1),)), ((), ((0, 5, 1),)), (((0, 0, 1), (0, 3, 1)), ((0, 0, 1),)),
        (((6, 0, 1),), Y), (((6, 0, 1),), ((0, 2, 1),)), (((0, 2, 1), (3, 0, 1)), ((0, 1, 1), (2, 0, 1))),
        (((1, 1, 1), (2, 0, 1)), ((0, 2, 1),)), (((0, 3, 1), (1, 0, q - 1), (4, 0, 1)), ((1, 1, 1),)),
    )


def row_within(q, draw, pair, many):
    """A row behind which the degree is at most 36."""
    return samples.row_of_degree(q, draw, min(36 // max(pairs.pair_degree(pair), 1), 36), many)


class Lowered(unittest.TestCase):
    def test_any_pairs(self):
        for q in FIELDS:
            draw = samples.drawer(q, "lowered")
            for m, n in itertools.product(range(-1, 5), repeat=2):
                pair = (samples.poly(q, draw, m, 0.4), samples.poly(q, draw, n, 0.4))
                self.assertEqual(peeling.lowered_by(q, pair), plain_lowered_by(q, pair))

    def test_powers_of_one_of_them(self):
        for q in FIELDS:
            draw = samples.drawer(q, "powers")
            for m, power in ((1, 1), (1, 2), (1, 6), (2, 1), (2, 3), (3, 2), (3, 4), (6, 2), (2, 6)):
                F = {**as_dict(samples.poly(q, draw, m)), (m - 1, 1): 1, (m, 0): draw.randrange(1, q)}
                G = {(0, 0): draw.randrange(1, q)}
                for _ in range(power):
                    G = reference.poly_times(q, G, F)
                G = reference.poly_plus(q, G, as_dict(samples.poly(q, draw, m * power - 1)))
                pair = (as_poly(F), as_poly(G))
                both = ("F", "G") if power == 1 else ("F",)
                self.assertEqual(peeling.lowered_by(q, pair), both)
                self.assertEqual(peeling.lowered_by(q, pair[::-1]), ("F", "G") if power == 1 else ("G",))
                spoilt = reference.poly_plus(q, G, {(0, m * power): 1})
                pair = (as_poly(F), as_poly(spoilt))
                self.assertEqual(peeling.lowered_by(q, pair), plain_lowered_by(q, pair))

    def test_numbers_alone_lower_nothing(self):
        for q in FIELDS:
            for one in ((), ((0, 0, 1),)):
                for other in ((), ((0, 0, q - 1),), X, ((2, 0, 1),)):
                    self.assertEqual(peeling.lowered_by(q, (one, other)), ())
                    self.assertEqual(peeling.lowered_by(q, (other, one)), ())

    def test_straight_pairs(self):
        for q in FIELDS:
            draw = samples.drawer(q, "straight")
            for _ in range(10):
                pair = reference.row_pair(q, (("straight", samples.straight(q, draw)),))
                self.assertEqual(peeling.lowered_by(q, pair), ())
            self.assertEqual(peeling.lowered_by(q, (X, ((0, 0, 1), (1, 0, q - 1)))), ("F", "G"))


class PairsOfSteps(unittest.TestCase):
    def test_pairs_made_by_steps_of_each_sort(self):
        for q in FIELDS:
            draw = samples.drawer(q, "undoable")
            for degrees in samples.degrees_up_to(12):
                step = samples.step(q, draw, degrees)
                pair = pairs.pair_by_row(q, steps.row_of(q, step))
                self.assertEqual(peeling.judge_pair(q, pair), ("step", step))
                self.assertIs(peeling.pair_holds(q, pair, ("step", step)), True)
                self.assertIs(peeling.is_undoable(q, pair), True)
                for many in (0, 1, 3):
                    row = row_within(q, draw, pair, many)
                    self.assertIs(peeling.pair_holds(q, pair, ("stuck", row)), False)
                other = samples.step(q, draw, degrees)
                self.assertIs(peeling.pair_holds(q, pair, ("step", other)), other == step)

    def test_rows_of_pieces(self):
        for q in FIELDS:
            draw = samples.drawer(q, "rows")
            for many in (2, 5, 9, 24):
                row = samples.row_of_degree(q, draw, 12, many)
                pair = pairs.pair_by_row(q, row)
                self.assertEqual(peeling.judge_pair(q, pair), ("step", steps.step_of_row(q, row)))

    def test_spoilt_steps(self):
        for q in FIELDS:
            draw = samples.drawer(q, "spoilt")
            for degrees in ((), (2,), (3, 2), (2, 2, 3)):
                step = samples.step(q, draw, degrees)
                pair = pairs.pair_by_row(q, steps.row_of(q, step))
                for thing in samples.spoilt(("step", step), draw, 150):
                    self.assertIs(peeling.pair_holds(q, pair, thing), thing == ("step", step) and not has_bool(thing))

    def test_steps_of_another_degree(self):
        for q in FIELDS:
            draw = samples.drawer(q, "degree")
            pair = pairs.pair_by_row(q, steps.row_of(q, samples.step(q, draw, (3, 2))))
            for degrees in ((), (6,), (2, 3), (2,), (3, 2, 2), (6,) * 12, (2,) * 80):
                self.assertIs(peeling.pair_holds(q, pair, ("step", samples.step(q, draw, degrees))), False)

    def test_rows_that_are_too_long_or_too_great(self):
        for q in FIELDS:
            draw = samples.drawer(q, "too great")
            pair = pairs.pair_by_row(q, steps.row_of(q, samples.step(q, draw, (2, 6))))
            great = (("bend", samples.bend(q, draw, 6)), SWAP) * 12
            for row in (great, great * 5, (SWAP,) * 25, (SWAP,) * 500, great[:2], (("bend", (0, 0, 1)),) * 24):
                for undoable in (pair, NOTHING, (Y, X)):
                    self.assertIs(peeling.pair_holds(q, undoable, ("stuck", row)), False)


def has_bool(thing):
    if isinstance(thing, (tuple, list)):
        return any(has_bool(part) for part in thing)
    return isinstance(thing, bool)


class PairsThatStick(unittest.TestCase):
    def check(self, q, pair):
        found = peeling.judge_pair(q, pair)
        self.assertEqual([type(found), len(found), found[0]], [tuple, 2, "stuck"])
        self.assertTrue(reference.is_row(q, found[1]))
        self.assertTrue(plain_sticks(q, pair, found[1]))
        self.assertIs(peeling.pair_holds(q, pair, found), True)
        self.assertIs(peeling.is_undoable(q, pair), False)
        self.assertIs(peeling.undoing_pair(q, pair), None)

    def test_cores(self):
        for q in FIELDS:
            for pair in cores(q):
                self.check(q, pair)
                self.assertIs(peeling.pair_holds(q, pair, ("stuck", ())), True)
                for step in (steps.nothing(), (-1, ((0, 0, 1),), (), SAME)):
                    self.assertIs(peeling.pair_holds(q, pair, ("step", step)), False)

    def test_cores_behind_rows(self):
        for q in FIELDS:
            draw = samples.drawer(q, "behind rows")
            for core in cores(q):
                for many in (1, 2, 4):
                    row = samples.row_of_degree(q, draw, 12 // max(pairs.pair_degree(core), 1), many)
                    pair = core
                    for piece in row:
                        pair = pairs.pair_then(q, pair, tuple(as_poly(F) for F in reference.piece_pair(piece)))
                    self.check(q, pair)

    def test_rows_that_end_elsewhere(self):
        for q in FIELDS:
            draw = samples.drawer(q, "elsewhere")
            both = [0, 0]
            for core in cores(q):
                for many in (1, 1, 2, 3, 5):
                    row = row_within(q, draw, core, many)
                    right = plain_sticks(q, core, row)
                    both[right] += 1
                    self.assertIs(peeling.pair_holds(q, core, ("stuck", row)), right)
            self.assertGreater(min(both), 0)

    def test_pairs_that_are_peeled_first(self):
        for q in FIELDS:
            draw = samples.drawer(q, "peeled")
            for core in cores(q):
                if pairs.pair_degree(core) > 6:
                    continue
                row = samples.row_of_degree(q, draw, 12 // max(pairs.pair_degree(core), 1), 3)
                pair = core
                for piece in row:
                    pair = pairs.pair_then(q, pair, tuple(as_poly(F) for F in reference.piece_pair(piece)))
                back = tuple(peeling.row_undone(q, row))
                if pairs.pair_degree(pair) * pairs.pair_degree(pairs.pair_by_row(q, row)) <= 36:
                    self.assertIs(peeling.pair_holds(q, pair, ("stuck", back)), True)
                for many in (1, 2):
                    other = row_within(q, draw, pair, many)
                    right = plain_sticks(q, pair, other)
                    self.assertIs(peeling.pair_holds(q, pair, ("stuck", other)), right)

    def test_bends_behind_which_a_pair_still_sticks(self):
        for q in FIELDS:
            for degree in range(2, 7):
                pair = (((6, 0, 1),), Y)
                self.assertIs(peeling.pair_holds(q, pair, ("stuck", (("bend", (0,) * degree + (1,)),))), True)
            for degree, right in ((2, True), (3, True), (4, False), (6, False)):
                pair = (((6, 0, 1),), ((0, 2, 1),))
                self.assertIs(peeling.pair_holds(q, pair, ("stuck", (("bend", (0,) * degree + (1,)),))), right)

    def test_wrong_rows_of_great_degrees(self):
        for q in FIELDS:
            draw = samples.drawer(q, "great")
            turns = [("straight", (0, 1, 0, 1, draw.randrange(q), 0)) for _ in range(12)]
            row = tuple(part for turn in turns for part in (turn, ("bend", samples.bend(q, draw, 6))))
            for core in cores(q):
                right = pairs.pair_degree(core) <= 0
                self.assertIs(peeling.pair_holds(q, core, ("stuck", row)), right)
                self.assertIs(peeling.pair_holds(q, core, ("stuck", row * 3)), right)

    def test_rows_that_come_back(self):
        for q in FIELDS:
            draw = samples.drawer(q, "come back")
            row = samples.row(q, draw, 12)
            for core in cores(q):
                self.assertIs(peeling.pair_holds(q, core, ("stuck", row + peeling.row_undone(q, row))), True)

    def test_any_value(self):
        for q in FIELDS:
            draw = samples.drawer(q, "any value")
            for pair in (cores(q)[0], NOTHING, (((0, 2, 1), (1, 0, 1)), Y)):
                things = samples.odd_values()
                things += [("stuck",), ("stuck", (), ()), ["stuck", ()], ("stuck", []), ("Stuck", ()), ("stuck", None)]
                things += [("step",), ("step", None), ("step", ()), (("stuck",), ()), (None, ()), ("stuck", "")]
                for thing in things:
                    right = thing == ("stuck", ()) and isinstance(thing, tuple) and pair == cores(q)[0]
                    self.assertIs(peeling.pair_holds(q, pair, thing), right, thing)
                for thing in samples.spoilt(("stuck", (SWAP, SWAP)), draw, 100):
                    right = False
                    if isinstance(thing, tuple) and len(thing) == 2 and thing[0] == "stuck":
                        right = reference.is_row(q, thing[1]) and plain_sticks(q, pair, thing[1])
                    self.assertIs(peeling.pair_holds(q, pair, thing), right, thing)


class AllSmallPairs(unittest.TestCase):
    def test_all_pairs_of_degree_2_over_2(self):
        exponents = [(i, j) for i in range(3) for j in range(3 - i)]
        some = [
            tuple((i, j, 1) for (i, j), c in zip(exponents, numbers) if c)
            for numbers in itertools.product(range(2), repeat=6)
        ]
        made = set()
        for pair in itertools.product(some, repeat=2):
            word, shown = peeling.judge_pair(2, pair)
            self.assertIs(peeling.pair_holds(2, pair, (word, shown)), True)
            self.assertEqual(peeling.lowered_by(2, pair), plain_lowered_by(2, pair))
            if word == "step":
                self.assertEqual(reference.row_pair(2, steps.row_of(2, shown)), pair)
                made.add(shown)
            else:
                self.assertTrue(plain_sticks(2, pair, shown))
        self.assertEqual(len(made), 24 + 72)


class Undoable(unittest.TestCase):
    def test_any_value(self):
        for q in FIELDS:
            draw = samples.drawer(q, "undoable")
            pair = pairs.pair_by_row(q, (("bend", samples.bend(q, draw, 3)), SWAP))
            for thing in samples.odd_values() + [list(pair), pair[:1], pair + pair, (pair[0], list(pair[1]))]:
                self.assertIs(peeling.is_undoable(q, thing), thing == NOTHING)
            for thing in samples.spoilt(pair, draw, 100):
                right = reference.is_pair(q, thing) and pairs.pair_degree(thing) <= 36
                right = right and peeling.judge_pair(q, thing)[0] == "step"
                self.assertIs(peeling.is_undoable(q, thing), right, thing)

    def test_degrees_above_36(self):
        for q in FIELDS:
            great = (
                (((0, 37, 1), (1, 0, 1)), Y), (((10 ** 39, 0, 1),), Y), (X, ((0, 1, 1), (10 ** 39, 10 ** 39, 1))),
                (((0, 10 ** 39, 1), (1, 0, 1)), ((0, 1, 1),)), (((37, 0, 1),), ((37, 0, 1),)),
            )
            for pair in great:
                self.assertIs(peeling.is_undoable(q, pair), False)

    def test_degree_36_itself(self):
        for q in FIELDS:
            row = (("bend", (0,) * 6 + (1,)), SWAP, ("bend", (0, 0, 1, 0, 0, 0, 1)))
            pair = pairs.pair_by_row(q, row)
            self.assertEqual(pairs.pair_degree(pair), 36)
            self.assertIs(peeling.is_undoable(q, pair), True)
            self.assertIs(peeling.is_undoable(q, (pair[0], ((0, 36, 1), (1, 0, 1)))), False)

    def test_undoable_pair_of_degree_48(self):
        for q in (2, 9):
            row = (("bend", (0,) * 6 + (1,)), SWAP, ("bend", (0, 0, 0, 0, 1)), SWAP, ("bend", (0, 0, 1)))
            self.assertIs(peeling.is_undoable(q, pairs.pair_by_row(q, row)), False)
            self.assertIs(peeling.is_undoable(q, pairs.pair_by_row(q, row[:3])), True)

    def test_numbers_as_determinants_are_not_enough(self):
        for q in FIELDS:
            p = reference.characteristic(q)
            pair = (((1, 0, 1), (p, 0, 1)), Y)
            self.assertEqual(pairs.determinant(q, pair), ((0, 0, 1),))
            self.assertIs(peeling.is_undoable(q, pair), False)


class UndoingPairs(unittest.TestCase):
    def test_both_orders(self):
        for q in FIELDS:
            draw = samples.drawer(q, "undoing")
            for degrees in ((), (2,), (3,), (2, 2), (6,), (2, 3), (3, 2)):
                step = samples.step(q, draw, degrees)
                pair = pairs.pair_by_row(q, steps.row_of(q, step))
                less = peeling.undoing_pair(q, pair)
                self.assertTrue(reference.is_pair(q, less))
                self.assertEqual(pairs.pair_then(q, pair, less), NOTHING)
                self.assertEqual(pairs.pair_then(q, less, pair), NOTHING)
                self.assertEqual(peeling.undoing_pair(q, less), pair)

    def test_degree_12(self):
        for q in FIELDS:
            draw = samples.drawer(q, "undoing 12")
            for degrees in ((2, 6), (3, 4), (2, 2, 3)):
                step = samples.step(q, draw, degrees)
                less = peeling.undoing_pair(q, pairs.pair_by_row(q, steps.row_of(q, step)))
                self.assertEqual(less, pairs.pair_by_row(q, steps.row_of(q, steps.undoing(q, step))))


class BadPairs(unittest.TestCase):
    def test_each_function(self):
        for q in FIELDS:
            draw = samples.drawer(q, "bad pairs")
            for thing in samples.odd_values() + samples.spoilt((X, ((0, 1, 1), (2, 0, 1))), draw, 60):
                if reference.is_pair(q, thing):
                    continue
                calls = (
                    lambda: peeling.lowered_by(q, thing), lambda: peeling.judge_pair(q, thing),
                    lambda: peeling.pair_holds(q, thing, ("stuck", ())), lambda: peeling.pair_holds(q, thing, None),
                    lambda: peeling.undoing_pair(q, thing),
                )
                for call in calls:
                    with self.assertRaises(BadPair) as caught:
                        call()
                    self.assertIs(caught.exception.thing, thing)


if __name__ == "__main__":
    unittest.main()
