"""[2.2] Pairs, and [2.3] pieces and rows of them."""

import itertools
import unittest

from bentplane import pairs
from bentplane.errors import BadPiece
from bentplane.polys import degree, poly_times, put
from tests import reference, samples
from tests.reference import FIELDS, as_dict, as_poly

NOTHING = (((1, 0, 1),), ((0, 1, 1),))


def plain_then(q, one, other):
    inner = [as_dict(F) for F in one]
    return tuple(as_poly(reference.put(q, as_dict(F), inner)) for F in other)


def random_pair(q, draw, most):
    return (samples.poly(q, draw, draw.randrange(-1, most + 1)), samples.poly(q, draw, most))


class IsPair(unittest.TestCase):
    def test_any_value(self):
        for q in FIELDS:
            draw = samples.drawer(q, "is pair")
            pair = random_pair(q, draw, 2)
            self.assertIs(pairs.is_pair(q, pair), True)
            self.assertIs(pairs.is_pair(q, ((), ())), True)
            wrong = (pair[:1], pair + ((),), list(pair), (pair[0], list(pair[1])), (((0, 0, q),), ()), ((), None), ())
            for thing in wrong:
                self.assertIs(pairs.is_pair(q, thing), False, thing)
            for thing in samples.odd_values() + samples.spoilt(pair, draw, 150):
                self.assertIs(pairs.is_pair(q, thing), reference.is_pair(q, thing), thing)


class Pairs(unittest.TestCase):
    def test_one_and_then_the_other(self):
        for q in FIELDS:
            draw = samples.drawer(q, "then")
            for m, n in ((1, 1), (2, 3), (3, 2), (1, 6), (6, 1), (4, 3)):
                one, other = random_pair(q, draw, m), random_pair(q, draw, n)
                found = pairs.pair_then(q, one, other)
                self.assertEqual(found, plain_then(q, one, other))
                self.assertTrue(reference.is_pair(q, found))

    def test_nothing(self):
        for q in FIELDS:
            pair = random_pair(q, samples.drawer(q, "nothing"), 12)
            self.assertEqual([pairs.pair_then(q, NOTHING, pair), pairs.pair_then(q, pair, NOTHING)], [pair, pair])

    def test_three_of_them(self):
        for q in FIELDS:
            draw = samples.drawer(q, "three")
            for degrees in ((2, 3, 2), (1, 2, 4), (3, 1, 3), (3, 3, 3)):
                one, two, three = [random_pair(q, draw, degree) for degree in degrees]
                first = pairs.pair_then(q, pairs.pair_then(q, one, two), three)
                self.assertEqual(first, pairs.pair_then(q, one, pairs.pair_then(q, two, three)))

    def test_degrees(self):
        self.assertEqual(pairs.pair_degree(((), ())), -1)
        self.assertEqual(pairs.pair_degree(((), ((0, 0, 1),))), 0)
        self.assertEqual(pairs.pair_degree((((0, 5, 1), (1, 1, 1)), ((3, 0, 1),))), 5)
        self.assertEqual(pairs.pair_degree((((3, 0, 1),), ((0, 5, 1), (3, 4, 1)))), 7)

    def test_points(self):
        for q in FIELDS:
            draw = samples.drawer(q, "points")
            one, other = random_pair(q, draw, 3), random_pair(q, draw, 2)
            both = pairs.pair_then(q, one, other)
            for point in itertools.product(range(q), repeat=2):
                moved = pairs.point_by_pair(q, one, point)
                self.assertEqual(moved, tuple(reference.poly_value(q, as_dict(F), *point) for F in one))
                self.assertEqual(pairs.point_by_pair(q, both, point), pairs.point_by_pair(q, other, moved))


class Determinants(unittest.TestCase):
    def plain_determinant(self, q, pair):
        def slope(F, at):
            found = {}
            for exponents, c in F.items():
                if exponents[at] > 0:
                    key = (exponents[0] - (at == 0), exponents[1] - (at == 1))
                    found[key] = reference.times(q, reference.ones(q, exponents[at]), c)
            return {key: c for key, c in found.items() if c}

        F, G = [as_dict(part) for part in pair]
        less = {at: reference.opposite(q, c) for at, c in reference.poly_times(q, slope(F, 1), slope(G, 0)).items()}
        return as_poly(reference.poly_plus(q, reference.poly_times(q, slope(F, 0), slope(G, 1)), less))

    def test_any_pairs(self):
        for q in FIELDS:
            draw = samples.drawer(q, "determinant")
            for most in (0, 1, 2, 5, 10):
                pair = random_pair(q, draw, most)
                self.assertEqual(pairs.determinant(q, pair), self.plain_determinant(q, pair))

    def test_one_and_then_the_other(self):
        for q in FIELDS:
            draw = samples.drawer(q, "chain")
            for m, n in ((1, 2), (2, 2), (3, 3), (2, 5)):
                one, other = random_pair(q, draw, m), random_pair(q, draw, n)
                both = poly_times(q, pairs.determinant(q, one), put(q, pairs.determinant(q, other), one))
                self.assertEqual(pairs.determinant(q, pairs.pair_then(q, one, other)), both)

    def test_rows_of_pieces(self):
        for q in FIELDS:
            draw = samples.drawer(q, "rows")
            for _ in range(5):
                row = samples.row_of_degree(q, draw, 36, 6)
                right = 1
                for sort, m in row:
                    if sort == "straight":
                        down, across = reference.times(q, m[0], m[4]), reference.times(q, m[1], m[3])
                        right = reference.times(q, right, reference.plus(q, down, reference.opposite(q, across)))
                self.assertEqual(pairs.determinant(q, pairs.pair_by_row(q, row)), ((0, 0, right),))

    def test_number_that_is_no_sign_of_undoing(self):
        self.assertEqual(pairs.determinant(3, (((1, 0, 1), (3, 0, 1)), ((0, 1, 1),))), ((0, 0, 1),))


class Pieces(unittest.TestCase):
    def test_straight_maps(self):
        for q in (2, 3):
            found = [m for m in itertools.product(range(q), repeat=6) if pairs.is_straight(q, m)]
            self.assertEqual(found, [m for m in itertools.product(range(q), repeat=6) if reference.is_straight(q, m)])
            self.assertEqual(len(found), (q * q - 1) * (q * q - q) * q * q)
        for q in FIELDS:
            draw = samples.drawer(q, "straight")
            for _ in range(200):
                numbers = tuple(draw.randrange(q) for _ in range(6))
                self.assertIs(pairs.is_straight(q, numbers), reference.is_straight(q, numbers))

    def test_wrong_straight_maps(self):
        for q in FIELDS:
            wrong = (
                (1, 0, 0, 0, 1), (1, 0, 0, 0, 1, 0, 0), [1, 0, 0, 0, 1, 0], (True, 0, 0, 0, 1, 0), (1, 0, 0, 0, 1, False),
                (1, 0, q, 0, 1, 0), (1, 0, 0, 0, 1, -1), (0,) * 6, (1,) * 6, (1, 0, 0, 0, 0, 0), None, (), "100010",
            )
            for thing in wrong:
                self.assertIs(pairs.is_straight(q, thing), False, thing)

    def test_bends(self):
        for q in FIELDS:
            for size in range(1, 12):
                self.assertIs(pairs.is_bend(q, (0,) * size + (1,)), 2 <= size <= 6)
            wrong = (
                (), (0,), (0, 0), (0, 1), (0, 1, 1), (1, 0, 1), (0, 0, 0), (0, 0, 1, 0), [0, 0, 1], (0, 0, True),
                (False, 0, 1), (0, 0, q), (0, 0, -1), (0, 0, "1"), None, "001", 1, (0, 0, (1,)),
            )
            for thing in wrong:
                self.assertIs(pairs.is_bend(q, thing), False, thing)

    def test_any_value(self):
        for q in FIELDS:
            draw = samples.drawer(q, "pieces")
            things = samples.odd_values()
            things += samples.spoilt(samples.straight(q, draw), draw, 100)
            things += samples.spoilt(samples.bend(q, draw), draw, 100)
            row = samples.row(q, draw, 5)
            things += samples.spoilt(row, draw, 200) + [row, row[0], row[:1], list(row), row + row, ()]
            for thing in things:
                self.assertIs(pairs.is_straight(q, thing), reference.is_straight(q, thing), thing)
                self.assertIs(pairs.is_bend(q, thing), reference.is_bend(q, thing), thing)
                self.assertIs(pairs.is_row(q, thing), reference.is_row(q, thing), thing)

    def test_wrong_rows(self):
        m, f = (1, 0, 0, 0, 1, 0), (0, 0, 1)
        for q in FIELDS:
            wrong = (
                [("bend", f)], (["bend", f],), (("bend", m),), (("straight", f),), (("bend", f, f),), (("bend",),),
                ("bend", f), (("bent", f),), ((None, f),), ((["bend"], f),), (("straight", list(m)),), None, "bend", 0,
            )
            for thing in wrong:
                self.assertIs(pairs.is_row(q, thing), False, thing)


class Rows(unittest.TestCase):
    def test_pair_by_row(self):
        for q in FIELDS:
            draw = samples.drawer(q, "pair by row")
            self.assertEqual(pairs.pair_by_row(q, ()), NOTHING)
            for most, many in ((1, 3), (2, 2), (6, 4), (12, 6), (12, 24)):
                row = samples.row_of_degree(q, draw, most, many)
                self.assertEqual(pairs.pair_by_row(q, row), reference.row_pair(q, row))

    def test_degree_36(self):
        for q in FIELDS:
            draw = samples.drawer(q, "36")
            f, g, m = samples.bend(q, draw, 6), samples.bend(q, draw, 6), (0, 1, 1, 1, q - 1, 0)
            row = (("bend", f), ("straight", m), ("bend", g))
            found = pairs.pair_by_row(q, row)
            self.assertEqual([pairs.pair_degree(found), degree(found[1])], [36, 6])
            self.assertEqual(found, reference.row_pair(q, row))

    def test_points_by_rows_and_pairs(self):
        for q in FIELDS:
            draw = samples.drawer(q, "agree")
            points = list(itertools.product(range(q), repeat=2))
            for _ in range(6):
                row = samples.row_of_degree(q, draw, 36, 8)
                pair = pairs.pair_by_row(q, row)
                for point in draw.sample(points, min(40, len(points))):
                    self.assertEqual(pairs.point_by_row(q, row, point), pairs.point_by_pair(q, pair, point))
                moved = [pairs.point_by_row(q, row, point) for point in points]
                self.assertEqual(sorted(moved), points)

    def test_single_pieces(self):
        for q in FIELDS:
            draw = samples.drawer(q, "single")
            m, f = samples.straight(q, draw), samples.bend(q, draw)
            for point in itertools.product(range(q), repeat=2):
                for piece in (("straight", m), ("bend", f)):
                    right = tuple(reference.poly_value(q, F, *point) for F in reference.piece_pair(piece))
                    self.assertEqual(pairs.point_by_row(q, (piece,), point), right)

    def test_long_rows_of_points(self):
        for q in FIELDS:
            draw = samples.drawer(q, "long")
            row = samples.row(q, draw, 24)
            for point in [(0, 0), (q - 1, 1)]:
                middle = pairs.point_by_row(q, row[:13], point)
                self.assertEqual(pairs.point_by_row(q, row, point), pairs.point_by_row(q, row[13:], middle))


class BadRows(unittest.TestCase):
    def places(self, q, row):
        """The places that the two functions name."""
        found = []
        for call in (lambda: pairs.pair_by_row(q, row), lambda: pairs.point_by_row(q, row, (0, 0))):
            with self.assertRaises(BadPiece) as caught:
                call()
            found.append(caught.exception.place)
        self.assertEqual(found[0], found[1])
        return found[0]

    def test_no_tuple(self):
        for q in FIELDS:
            for row in (None, 0, True, "bend", [], [("bend", (0, 0, 1))], {}, 10 ** 39):
                self.assertEqual(self.places(q, row), 0)

    def test_first_that_is_no_piece(self):
        good = ("bend", (0, 0, 1))
        for q in FIELDS:
            for bad in (None, ("bend", (0, 1)), ["bend", (0, 0, 1)], ("straight", (0,) * 6), (), good + good, "bend"):
                for at in range(4):
                    self.assertEqual(self.places(q, (good,) * at + (bad, good, bad)), at)

    def test_however_great_the_degrees(self):
        for q in FIELDS:
            row = (("bend", (0,) * 6 + (1,)), ("straight", (0, 1, 0, 1, 0, 0))) * 60
            self.assertEqual(self.places(q, row + (None,)), 120)
            self.assertEqual(self.places(q, row + (("bend", (0,) * 7 + (1,)),) + row), 120)

    def test_any_value(self):
        for q in FIELDS:
            draw = samples.drawer(q, "bad rows")
            row = samples.row(q, draw, 4)
            for thing in samples.odd_values() + samples.spoilt(row, draw, 100):
                if reference.is_row(q, thing):
                    continue
                right = 0
                if isinstance(thing, tuple):
                    right = [reference.is_piece(q, piece) for piece in thing].index(False)
                self.assertEqual(self.places(q, thing), right)


if __name__ == "__main__":
    unittest.main()
